/-
  Texts that the proofs of this seat share, joined: Md, Ml.
-/
import Derived.Test.YtabecbjfamphbaaGreatDoorB13
import Derived.Test.YtabecbjfamphbaaGreatDoorB03
import Derived.Laws.CopyRow
import Derived.Deep.RegionLaw
import Derived.Test.YtabecbjfamphbaaGreatDoorB07
import Derived.Deep.AppendLies
/- slices.Delete of one packet. -/
namespace Go.Proofs.YtabecbjfamphbaaGreatDoor
open Go.RowKit Go.Stop Go.Extern

theorem prow_length (ps : List Pk) : (prow ps).length = 2 * ps.length := by
  induction ps with
  | nil => rfl
  | cons x ps ih =>
    show (Pk.cells x ++ prow ps).length = _
    rw [List.length_append, ih]
    simp [Pk.cells]
    omega
theorem prow_one (ps : List Pk) : ∀ u ∈ prow ps, u.oneCell' = true := fun u hu => by
  obtain ⟨x, _, hx⟩ := List.mem_flatMap.1 hu
  simp [Pk.cells] at hx
  rcases hx with rfl | rfl <;> rfl
theorem prow_take (ps : List Pk) (i : Nat) : prow (ps.take i) = (prow ps).take (i * 2) := by
  rcases Nat.lt_or_ge ps.length i with h | h
  · rw [List.take_of_length_le (by omega), List.take_of_length_le (by rw [prow_length]; omega)]
  · conv => rhs; rw [← List.take_append_drop i ps, prow_append]
    rw [List.take_left' (by rw [prow_length, List.length_take]; omega)]
theorem prow_drop (ps : List Pk) (i : Nat) : prow (ps.drop i) = (prow ps).drop (i * 2) := by
  rcases Nat.lt_or_ge ps.length i with h | h
  · rw [List.drop_eq_nil_of_le (by omega), List.drop_eq_nil_of_le (by rw [prow_length]; omega)]
    rfl
  · conv => rhs; rw [← List.take_append_drop i ps, prow_append]
    rw [List.drop_left' (by rw [prow_length, List.length_take]; omega)]
/-- append in place, of cells that may lie in the same block. -/
theorem step_append_row {P : Program} {ops : Array Oper} {o : Oper} {a : Act} {w : World} {K : Act → World → Prop} {Q : Exit → Act → World → Prop} {E : Prop}
    (hg : o.guard = none) (s x : Operand) (t : TypeId) (hop : o.op = Op.call { callee := Callee.builtin Builtin.append, args := #[s, x], argTypes := #[t, t] })
    (e : TypeId) (i : TypeInfo) (size : Nat) (h1 : P.underlying t = some (.slice e)) (h2 : P.info? e = some i) (h4 : i.size = size)
    (b n cap : Nat) (cur : Array Value) (hb : w.heap[b]? = some (.cells cur e (0, 0))) (hs : a.eval s = .slice (some ⟨b, 0, none⟩) n cap)
    (ad : Addr) (m c : Nat) (news : List Value) (hx : a.eval x = .slice (some ad) m c) (hn : news.length = m * size) (hc : ∀ j u, news[j]? = some u → w.cell? (ad.add j) = some u) (h1c : ∀ u ∈ news, u.oneCell' = true)
    (hroom : n + m ≤ cap) (hfit : n * size + news.length ≤ cur.size)
    (R : Array Value) (hR : R = (cur.toList.take (n * size) ++ news ++ cur.toList.drop (n * size + news.length)).toArray) (hK : K (a.put o.dst (.slice (some ⟨b, 0, none⟩) (n + m) cap)) (w.setRow b R)) :
    if Region.wanted o (yielded ops a.tmps) = true then Oper.wp P o a w K Q else E := by
  have hw : Region.wanted o (yielded ops a.tmps) = true := by simp [Region.wanted, hg]
  rw [if_pos hw]
  subst h4
  have hrun := run_append_room (P := P) w t o.type e i h1 h2 b n cap cur hb ad m c news hn hc h1c hroom hfit
  rw [← hR] at hrun
  unfold Oper.wp
  simp [execOp, hop, resolve, invoke, builtin, hs, hx, hrun, Result.andThen]
  exact hK
/-- clear over the row's last packet. -/
theorem clear2_run (w : World) (g i cap : Nat) (cur : Array Value) (hh : w.heap[g]? = some (.cells cur 109 (0, 0))) (hcs : cur.size = cap * 2) (hi : i < cap) (ty : TypeId) (c : Nat) :
    ∃ w', (Builtin.clear_ #[54] ty #[.slice (some ⟨g, i * 2, none⟩) 1 c]).run Tryz.prog w = .ok (.tuple #[]) w' ∧ w'.heap[g]? = some (.cells (cur.toList.take (i * 2) ++ [Value.int .i64 0, Value.string ⟨#[]⟩] ++ cur.toList.drop (i * 2 + 2)).toArray 109 (0, 0)) ∧ Alike w w' (fun k => k = g) := by
  obtain ⟨q, hq, hq0, hq2, _⟩ := info_parts Tryz.packetInfo
  have hst := run_storeCells_at Tryz.prog g (i * 2) 109 [.int .i64 0, .string ⟨#[]⟩] 0 cur w hh (by simp; omega) (by
    intro v hv
    simp at hv
    rcases hv with rfl | rfl <;> rfl)
  refine ⟨w.setRow g (cur.toList.take (i * 2) ++ [Value.int .i64 0, Value.string ⟨#[]⟩] ++ cur.toList.drop (i * 2 + 2)).toArray, ?_, setRow_heap _ _ _ _ _ _ hh, ⟨by simp, fun k _ hk => setRow_other _ _ _ _ hk, rfl, rfl, rfl⟩⟩
  have hz : (Builtin.zeroCells (Value.agg #[.int .i64 0, .string ⟨#[]⟩]).cells 1).toList = [.int .i64 0, .string ⟨#[]⟩] := by
    apply List.ext_getElem
    · simp [Builtin.zeroCells, Value.cells]
    · intro j h1 h2
      have : j = 0 ∨ j = 1 := by simp at h2; omega
      rcases this with rfl | rfl <;> simp [Builtin.zeroCells, Value.cells]
  simp only [Nat.add_zero, List.length_cons, List.length_nil] at hst
  simp [Builtin.clear_, run_underlying Tryz.underlying54, zeroValue, typeInfo, hq, hq0, hz, hst]
set_option maxRecDepth 100000 in
set_option maxHeartbeats 1000000 in
theorem delete_any (g cap k : Nat) (ps : List Pk) (w : World) (h : w.ownsRow 0 109 2 (.slice (some ⟨g, 0, none⟩) ps.length cap) ps.length (prow ps)) (hk : k < ps.length) :
    Calls Tryz.prog 179 #[.slice (some ⟨g, 0, none⟩) ps.length cap, .int .i64 k, .int .i64 ((k : Int) + 1)] w fun e w' => e = .returned (.slice (some ⟨g, 0, none⟩) (ps.length - 1) cap) ∧ w'.ownsRow 0 109 2 (.slice (some ⟨g, 0, none⟩) (ps.length - 1) cap) (ps.length - 1) (prow (ps.eraseIdx k)) ∧ Alike w w' (fun j => j = g) := by
  rcases h.2 with ⟨he, _⟩ | ⟨g', cap', cur, he, _, hh, hnc, hcm, hcs, htk⟩
  · cases he
  · cases he
    have hl := h.1
    clear h
    obtain ⟨i0, hi, hz0, hz1, hz2⟩ := info_parts Tryz.packetInfo
    obtain ⟨n, hn⟩ : ∃ n, n = ps.length := ⟨_, rfl⟩
    have hdl : (prow (ps.drop (k + 1))).length = (n - (k + 1)) * 2 := by rw [prow_length, List.length_drop, ← hn]; omega
    obtain ⟨A, hA, hsrc⟩ : ∃ A : Addr, (if cap = k + 1 then some (⟨g, 0, none⟩ : Addr) else some ⟨g, (k + 1) * 2, none⟩) = some A ∧ Hid (∀ t u, (prow (ps.drop (k + 1)))[t]? = some u → w.drew.cell? (A.add t) = some u) := by
      by_cases h : cap = k + 1
      · refine ⟨⟨g, 0, none⟩, by simp [h], fun t u hu => ?_⟩
        rw [List.eq_nil_of_length_eq_zero (l := prow (ps.drop (k + 1))) (by rw [hdl]; omega)] at hu
        simp at hu
      · refine ⟨⟨g, (k + 1) * 2, none⟩, by simp [h], fun t u hu => ?_⟩
        rw [Addr.add_lit]
        show w.cell? _ = _
        rw [cell_of_row w g _ cur _ (0, 0) hh]
        rw [prow_drop, ← htk, List.getElem?_drop, List.getElem?_take] at hu
        split at hu
        · rw [← Array.getElem?_toList]
          exact hu
        · cases hu
    have s2 : Hid _ := prow_one (ps.drop (k + 1))
    have s1 : Hid _ := hdl
    have HCur : Hid (w.drew.heap[g]? = some (.cells cur 109 (0, 0))) := hh
    rw [← hn] at hk hnc htk hl ⊢
    have hkc : k ≤ cap := by omega
    have hkc1 : k + 1 ≤ cap := by omega
    have hki : (k : Int) < (n : Int) := by omega
    have hk0 : 0 ≤ (k : Int) + 1 := by omega
    have hk1 : (k : Int) + 1 ≤ (n : Int) := by omega
    have HTK : Hid _ := htk
    have HHN : Hid _ := hn
    clear hh htk hl hdl hn
    go_enter Tryz.func179, Tryz.ntmps179
    go_wp2_with fail
    obtain ⟨R, hR⟩ : ∃ R, R = (cur.toList.take (k * 2) ++ prow (ps.drop (k + 1)) ++ cur.toList.drop (k * 2 + (prow (ps.drop (k + 1))).length)).toArray := ⟨_, rfl⟩
    have HR : Hid _ := hR
    have hk2 : k * 2 + (prow (ps.drop (k + 1))).length = (n - 1) * 2 := by rw [s1.out]; omega
    have hRs : R.size = cap * 2 := by
      rw [hR, hk2]
      simp only [List.size_toArray, List.length_append, List.length_take, List.length_drop, Array.length_toList, s1.out]
      omega
    have hRh : (w.drew.setRow g R).heap[g]? = some (.cells R 109 (0, 0)) := setRow_heap _ _ _ _ _ _ HCur.out
    have hcl : ∃ w2, (Builtin.clear_ #[54] 0 #[.slice (some ⟨g, (k + (n - (k + 1))) * 2, none⟩) (n - (k + (n - (k + 1)))) (cap - (k + (n - (k + 1))))]).run Tryz.prog (w.drew.setRow g R) = .ok (.tuple #[]) w2 ∧ w2.heap[g]? = some (.cells (R.toList.take ((k + (n - (k + 1))) * 2) ++ [Value.int .i64 0, Value.string ⟨#[]⟩] ++ R.toList.drop ((k + (n - (k + 1))) * 2 + 2)).toArray 109 (0, 0)) ∧ Alike (w.drew.setRow g R) w2 (fun k => k = g) := by
      rw [show n - (k + (n - (k + 1))) = 1 by omega]
      exact clear2_run (w.drew.setRow g R) g (k + (n - (k + 1))) cap R hRh hRs (by omega) 0 _
    obtain ⟨w2, hcl, hw2, ha2⟩ := hcl
    have HW2 : Hid _ := hw2
    have HA2 : Hid _ := ha2
    have HRs : Hid _ := hRs
    clear hR hk2 hRs hRh hw2 ha2
    go_region_law (refine step_append_row rfl (.tmp 22) (.tmp 25) 54 rfl 109 i0 2 Tryz.underlying54 hi hz1 g k cap cur HCur.out (by simp [Act.eval, Act.put]) A (n - (k + 1)) (cap - (k + 1)) (prow (ps.drop (k + 1))) (by simp [Act.eval, Act.put]) s1.out hsrc.out s2.out (by omega) (by rw [s1.out]; omega) R HR.out ?_)
    go_wp2_with fail
    go_ret
    have hn1 : k + (n - (k + 1)) = n - 1 := by omega
    have hw2 := HW2.out
    rw [hn1] at hw2
    refine ⟨by rw [← hn1]; rfl, ⟨by rw [prow_length, List.length_eraseIdx_of_lt (by rw [← HHN.out]; exact hk), ← HHN.out]; omega, Or.inr ⟨g, cap, _, rfl, Nat.zero_le _, hw2, by omega, hcm, ?_, ?_⟩⟩, ?_⟩
    · have := HRs.out
      simp only [List.size_toArray, List.length_append, List.length_take, List.length_drop, Array.length_toList, List.length_cons, List.length_nil]
      omega
    · have h1 : prow (ps.eraseIdx k) = (prow ps).take (k * 2) ++ prow (ps.drop (k + 1)) := by rw [List.eraseIdx_eq_take_drop_succ, prow_append, prow_take]
      have h2 : (cur.toList.take (k * 2) ++ prow (ps.drop (k + 1))).length = (n - 1) * 2 := by
        rw [List.length_append, s1.out, List.length_take, Array.length_toList]
        omega
      rw [show ∀ l : List Value, l.toArray.toList = l from fun l => by simp, List.append_assoc, List.take_left' (by rw [List.length_take, Array.length_toList, HRs.out]; omega), HR.out]
      rw [show ∀ l : List Value, l.toArray.toList = l from fun l => by simp, List.take_left' h2, h1, ← HTK.out, List.take_take, Nat.min_eq_left (by omega)]
    · have h3 : Alike w (w.drew.setRow g R) (fun j => j = g) := ⟨by simp, fun j _ hj => setRow_other _ _ _ _ hj, rfl, rfl, rfl⟩
      exact h3.trans HA2.out (fun _ _ h => h)
end Go.Proofs.YtabecbjfamphbaaGreatDoor

/- The net's lay and remove: packets on their way. -/
namespace Go.Proofs.YtabecbjfamphbaaGreatDoor
open Go.RowKit Go.Stop Go.Extern

/-- The packets on their way, in the mesh at mb. -/
structure Way (w : World) (mb : Nat) (wa : Option Addr) (wcap : Nat) (bag : List Pk) : Prop where
  c1 : w.cell? ⟨mb, 1, none⟩ = some (.slice wa bag.length wcap)
  own : w.ownsRow 0 109 2 (.slice wa bag.length wcap) bag.length (prow bag)
  ty : ∃ cur, w.heap[mb]? = some (.cells cur 196 (0, 0))
/-- The packets on their way are others. -/
structure Laid (w w' : World) (mb : Nat) (wa : Option Addr) (bag : List Pk) : Prop where
  how : ∃ wa' wcap', Way w' mb wa' wcap' bag ∧ ∀ k, onB wa' k → onB wa k ∨ w.heap.size ≤ k
  rest : Alike w w' (fun k => k = mb ∨ onB wa k)
  c0 : ∀ v, w.cell? ⟨mb, 0, none⟩ = some v → w'.cell? ⟨mb, 0, none⟩ = some v
theorem Way.off {w : World} {mb : Nat} {wa : Option Addr} {wcap : Nat} {bag : List Pk} (h : Way w mb wa wcap bag) {k : Nat} {cur : Array Value} {t : TypeId} {fz : Nat × Nat} (hk : w.heap[k]? = some (.cells cur t fz)) (ht : t ≠ 109) : ¬ onB wa k := by
  rintro ⟨off, hs⟩
  rcases h.own.2 with ⟨he, _⟩ | ⟨g, cap', cur', he, _, hh, _⟩
  · rw [hs] at he; cases he
  · cases he
    cases hs
    exact ty_ne hk hh ht rfl
theorem run_append_nothing {P : Program} (w : World) (t ty e : TypeId) (i : TypeInfo) (ht : P.underlying t = some (.slice e)) (hi : P.info? e = some i) (wa : Option Addr) (n cap : Nat) (h : n ≤ cap) : (Builtin.append_ #[t, t] ty #[.slice wa n cap, .slice none 0 0]).run P w = .ok (.slice wa n cap) w := by
  cases wa with
  | none => simp [Builtin.append_, run_underlying ht, sizeOf, typeInfo, hi, Builtin.lenOf, Builtin.firstCells, h]
  | some a => simp [Builtin.append_, run_underlying ht, sizeOf, typeInfo, hi, Builtin.lenOf, Builtin.firstCells, loadCells, h, storeCells]
theorem wpList_append_nothing {P : Program} (w : World) {ops : Array Oper} {rest : List Oper} {o : Oper} {a : Act} {Q : Exit → Act → World → Prop} (hgd : o.guard = none) (s x : Operand) (t : TypeId)
    (ho : o.op = .call { callee := .builtin .append, args := #[s, x], argTypes := #[t, t] }) (e : TypeId) (i : TypeInfo) (ht : P.underlying t = some (.slice e)) (hi : P.info? e = some i) (wa : Option Addr) (n cap : Nat) (hs : a.eval s = .slice wa n cap) (hx : a.eval x = .slice none 0 0) (hn : n ≤ cap)
    (h : wpList P ops Q rest (a.put o.dst (.slice wa n cap)) w) : wpList P ops Q (o :: rest) a w := by
  refine wpList_plain hgd fun K hK => ?_
  have hr := run_append_nothing (P := P) w t o.type e i ht hi wa n cap hn
  unfold Oper.wp execOp
  simp only [ho, resolve, invoke, builtin, Sem.run_bind, Sem.run_pure, Result.andThen_ok, List.map_toArray, List.map_cons, List.map_nil, hs, hx, hr]
  exact hK _ _ h
theorem Way.le {w : World} {mb : Nat} {wa : Option Addr} {wcap : Nat} {bag : List Pk} (h : Way w mb wa wcap bag) : bag.length ≤ wcap := by
  rcases h.own.2 with ⟨he, h0⟩ | ⟨g, cap', cur', he, _, _, hnc, _⟩
  · simp only [Value.slice.injEq] at he; omega
  · cases he; exact hnc
/-- The mesh's second cell holds another slice. -/
theorem laid_in {w w1 : World} {mb : Nat} {wa wa' : Option Addr} {wcap wcap' : Nat} {bag bag' : List Pk} (h : Way w mb wa wcap bag) (hrest : Alike w w1 (onB wa)) (hown : w1.ownsRow 0 109 2 (.slice wa' bag'.length wcap') bag'.length (prow bag')) (hnew : ∀ k, onB wa' k → onB wa k ∨ w.heap.size ≤ k) :
    Laid w (w1.setCell ⟨mb, 1, none⟩ (.slice wa' bag'.length wcap')) mb wa bag' := by
  obtain ⟨cur, ht⟩ := h.ty
  have hbl := lt_of_some ht
  have hnb : ¬ onB wa mb := h.off ht (by decide)
  have hty : w1.heap[mb]? = some (.cells cur 196 (0, 0)) := (hrest.block mb hbl hnb).trans ht
  have hset := Alike.setCell w1 ⟨mb, 1, none⟩ (.slice wa' bag'.length wcap')
  have hc1 := hrest.cell h.c1 hnb
  refine ⟨⟨wa', wcap', ⟨World.cell?_setCell_same _ _ _ hc1, ⟨hown.1, ?_⟩, _, heap_setCell_same w1 mb 1 cur _ _ hty⟩, hnew⟩, ?_, fun v hv => ?_⟩
  · rcases hown.2 with h' | ⟨g, cap', cur', he, hg, hh, hr⟩
    · exact Or.inl h'
    · refine Or.inr ⟨g, cap', cur', he, hg, (hset.block g (lt_of_some hh) ?_).trans hh, hr⟩
      intro e
      have e' : g = mb := e
      subst e'
      exact ty_ne hh hty (by decide) rfl
  · exact ((Alike.refl w (fun k => k = mb ∨ onB wa k)).trans hrest (fun k _ h => Or.inr h)).trans hset (fun k _ h => Or.inl h)
  · exact (World.cell?_setCell_other _ _ _ _ (by intro h; simp only [Addr.mk.injEq] at h; omega)).trans (hrest.cell hv hnb)
set_option maxRecDepth 100000 in
set_option maxHeartbeats 1000000 in
theorem lay_any (mb : Nat) (wa : Option Addr) (wcap : Nat) (bag ps : List Pk) (v : Value) (base : Nat) (w : World) (h : Way w mb wa wcap bag) (hp : Pks w base v ps) (hne : ∀ k, v.ownBlock = some k → ¬ onB wa k) (hl : bag.length + ps.length ≤ 1000000000000) :
    Calls Tryz.prog 136 #[.pointer (some ⟨mb, 0, none⟩), v] w fun e w' => e = .returned (.tuple #[]) ∧ Laid w w' mb wa (bag ++ ps) := by
  obtain ⟨av, cv, hsh⟩ := rowShaped hp.own
  subst hsh
  have c1 := h.c1
  have fz := frozen_ty h.ty 1
  have HH : Hid _ := h
  obtain ⟨i0, hi, hz0, hz1, hz2⟩ := info_parts Tryz.packetInfo
  have hle := h.le
  rcases hp.own.2 with ⟨he, h0⟩ | ⟨g, cap', cur, he, _, hh, hnc, _, hcs, htk⟩
  · simp only [Value.slice.injEq] at he
    obtain ⟨rfl, _, rfl⟩ := he
    have HE : Hid (ps = []) := List.length_eq_zero_iff.1 h0
    clear h hp
    rw [h0]
    go_enter Tryz.func136, Tryz.ntmps136
    go_wp2_with (at_builtin; refine wpList_append_nothing _ rfl (.tmp 8) (.tmp 9) 54 rfl 109 i0 Tryz.underlying54 hi wa bag.length wcap rfl rfl hle ?_)
    go_wp2_with fail
    refine bodyPost_end (v := .tuple #[]) (by simp [results, Tryz.results136, go_sem]) rfl ⟨rfl, ?_⟩
    rw [HE.out, List.append_nil]
    exact laid_in HH.out (Alike.refl _ _) HH.out.own (fun k hk => Or.inl hk)
  · cases he
    have HN : Hid (∀ j u, (prow ps)[j]? = some u → w.cell? ((⟨g, 0, none⟩ : Addr).add j) = some u) := fun j u hu => by
      rw [Addr.add_lit, Nat.zero_add, cell_of_row w g j cur _ (0, 0) hh, ← Array.getElem?_toList]
      rw [← htk, List.getElem?_take] at hu
      split at hu
      · exact hu
      · cases hu
    have HL : Hid ((prow ps).length = ps.length * 2) := hp.own.1
    have HOne : Hid _ := prow_one ps
    have HO : Hid _ := h.own
    have HMb : Hid (¬ onB wa mb) := by obtain ⟨c, e⟩ := h.ty; exact h.off e (by decide)
    have hmz : mb < w.heap.size := lt_of_cell c1
    clear h hp hh htk hcs hnc hne
    go_enter Tryz.func136, Tryz.ntmps136
    go_wp2_with (at_builtin; refine wpList_append_own_at _ rfl (.tmp 8) (.tmp 9) 54 rfl 0 109 i0 _ 2 24 Tryz.underlying54 hi hz0 hz1 hz2 rfl (by decide) _ _ _ rfl HO.out ⟨g, 0, none⟩ ps.length cv (prow ps) rfl HL.out HN.out HOne.out (by unfold maxLen; omega) (by omega) (Nat.zero_le _) ?_)
    intro v' w1 hown hgrow _ hat
    have HB : Hid (Alike w w1 (onB wa)) := (Alike.refl w _).trans (Alike.of_grown hgrow) (fun k _ hk => by
      rcases HH.out.own.2 with ⟨he, _⟩ | ⟨g', cap', cur', he, _⟩
      · rw [he] at hk; cases hk
      · cases he
        cases hk
        exact ⟨0, rfl⟩)
    obtain ⟨a4, c4, hg4⟩ := rowShaped hown
    subst hg4
    have HOw : Hid (w1.ownsRow 0 109 2 (.slice a4 (bag ++ ps).length c4) (bag ++ ps).length (prow (bag ++ ps))) := by
      show World.ownsRow _ _ _ _ _ _ _
      rw [List.length_append, prow_append]
      exact hown
    have HNew : Hid (∀ k, onB a4 k → onB wa k ∨ w.heap.size ≤ k) := fun k ⟨off, hk⟩ => by
      rcases hown.2 with ⟨he, _⟩ | ⟨g', cap', cur', he, _⟩
      · rw [hk] at he; cases he
      · cases he
        cases hk
        rcases hat with h | h
        · rcases HH.out.own.2 with ⟨he, _⟩ | ⟨g', cap', cur', he, _⟩
          · rw [he] at h; cases h
          · cases he
            cases h
            exact Or.inl ⟨0, rfl⟩
        · cases h
          exact Or.inr (Nat.le_refl _)
    have c11 := HB.out.cell c1 HMb.out
    have f11 := HB.out.frozen hmz fz HMb.out
    clear hown hgrow hat c1 fz
    go_wp2_with fail
    refine bodyPost_end (v := .tuple #[]) (by simp [results, Tryz.results136, go_sem]) rfl ⟨rfl, ?_⟩
    have := laid_in HH.out HB.out HOw.out HNew.out
    rw [List.length_append] at this
    exact this
set_option maxRecDepth 100000 in
set_option maxHeartbeats 1000000 in
theorem remove_any (mb : Nat) (wa : Option Addr) (wcap : Nat) (bag : List Pk) (k : Nat) (hk : k < bag.length) (hl : bag.length ≤ 1000000000000) (w : World) (h : Way w mb wa wcap bag) :
    Calls Tryz.prog 137 #[.pointer (some ⟨mb, 0, none⟩), .int .i64 k] w fun e w' => e = .returned (.tuple #[]) ∧ Laid w w' mb wa (bag.eraseIdx k) := by
  have c1 := h.c1
  have fz := frozen_ty h.ty 1
  have HH : Hid _ := h
  have HMb : Hid (¬ onB wa mb) := by obtain ⟨c, e⟩ := h.ty; exact h.off e (by decide)
  have hmz : mb < w.heap.size := lt_of_cell c1
  obtain ⟨g, hwa⟩ : ∃ g, wa = some ⟨g, 0, none⟩ := by
    rcases h.own.2 with ⟨_, h0⟩ | ⟨g, cap', cur, he, _⟩
    · omega
    · cases he; exact ⟨g, rfl⟩
  subst hwa
  have HD : Hid _ := delete_any g wcap k bag w h.own hk
  have HEl : Hid ((bag.eraseIdx k).length = bag.length - 1) := List.length_eraseIdx_of_lt hk
  clear h
  go_enter Tryz.func137, Tryz.ntmps137
  go_wp2_with fail
  refine (show Calls _ _ _ _ _ from HD.out).mono ?_
  rintro e w1 ⟨rfl, hown, ha⟩
  have HB : Hid (Alike w w1 (onB (some ⟨g, 0, none⟩))) := (Alike.refl w _).trans ha (fun k _ hk => by rw [hk]; exact ⟨0, rfl⟩)
  have HOw : Hid _ := hown
  have c11 := HB.out.cell c1 HMb.out
  have f11 := HB.out.frozen hmz fz HMb.out
  clear hown ha c1 fz HD
  go_wp2_with fail
  refine bodyPost_end (v := .tuple #[]) (by simp [results, Tryz.results137, go_sem]) rfl ⟨rfl, ?_⟩
  have := laid_in (wa' := some ⟨g, 0, none⟩) (wcap' := wcap) (bag' := bag.eraseIdx k) HH.out HB.out (by rw [HEl.out]; exact HOw.out) (fun k hk => Or.inl hk)
  rw [HEl.out] at this
  exact this
end Go.Proofs.YtabecbjfamphbaaGreatDoor
