/-
  Texts that the proofs of this seat share, joined: Ha, Hb, Hc, Fa, Fb, Kx, Kw, Ra, Sa.
-/
import Derived.Test.YtabecbjfamphbaaGreatDoorB14
import Derived.Test.YtabecbjfamphbaaGreatDoorB27
import Derived.Deep.RegionHeldLaw
import Derived.Test.YtabecbjfamphbaaGreatDoorB29
import Derived.Test.YtabecbjfamphbaaGreatDoorB28
import Derived.Test.YtabecbjfamphbaaGreatDoorB31
import Derived.Test.YtabecbjfamphbaaGreatDoorB37
/- hearsaykeep: Hands: packets that are carried by hand: lay. -/
namespace Go.Proofs.YtabecbjfamphbaaGreatDoor
open Go.RowKit Go.Stop Go.Extern

/-- The packets on their way, in the hands at hb. -/
structure HWay (w : World) (hb : Nat) (wa : Option Addr) (wcap : Nat) (bag : List Pk) : Prop where
  c1 : w.cell? ⟨hb, 1, none⟩ = some (.slice wa bag.length wcap)
  own : w.ownsRow 0 109 2 (.slice wa bag.length wcap) bag.length (prow bag)
  ty : ∃ cur, w.heap[hb]? = some (.cells cur 56 (0, 0))
/-- The packets on their way are others. -/
structure HLaid (w w' : World) (hb : Nat) (wa : Option Addr) (bag : List Pk) : Prop where
  how : ∃ wa' wcap', HWay w' hb wa' wcap' bag ∧ ∀ k, onB wa' k → onB wa k ∨ w.heap.size ≤ k
  rest : Alike w w' (fun k => k = hb ∨ onB wa k)
  c0 : ∀ v, w.cell? ⟨hb, 0, none⟩ = some v → w'.cell? ⟨hb, 0, none⟩ = some v
theorem HWay.off {w : World} {hb : Nat} {wa : Option Addr} {wcap : Nat} {bag : List Pk} (h : HWay w hb wa wcap bag) {k : Nat} {cur : Array Value} {t : TypeId} {fz : Nat × Nat} (hk : w.heap[k]? = some (.cells cur t fz)) (ht : t ≠ 109) : ¬ onB wa k := by
  rintro ⟨off, hs⟩
  rcases h.own.2 with ⟨he, _⟩ | ⟨g, cap', cur', he, _, hh, _⟩
  · rw [hs] at he; cases he
  · cases he
    cases hs
    exact ty_ne hk hh ht rfl
theorem HWay.lt {w : World} {hb : Nat} {wa : Option Addr} {wcap : Nat} {bag : List Pk} (h : HWay w hb wa wcap bag) {k : Nat} (hk : onB wa k) : k < w.heap.size := by
  obtain ⟨off, e⟩ := hk
  rcases h.own.2 with ⟨he, _⟩ | ⟨g, cap', cur', he, _, hh, _⟩
  · rw [e] at he; cases he
  · cases he
    cases e
    exact lt_of_some hh
theorem HWay.ofb {w : World} {hb : Nat} {wa : Option Addr} {wcap : Nat} {bag : List Pk} (h : HWay w hb wa wcap bag) : ¬ onB wa hb := by
  obtain ⟨cur, ht⟩ := h.ty
  exact h.off ht (by decide)
theorem HWay.alike {w w' : World} {hb : Nat} {wa : Option Addr} {wcap : Nat} {bag : List Pk} {E : Nat → Prop} (h : HWay w hb wa wcap bag) (ha : Alike w w' E) (h1 : ¬ E hb) (h2 : ∀ k, onB wa k → ¬ E k) : HWay w' hb wa wcap bag := by
  obtain ⟨cur, ht⟩ := h.ty
  refine ⟨ha.cell h.c1 h1, ⟨h.own.1, ?_⟩, cur, (ha.block hb (lt_of_some ht) h1).trans ht⟩
  rcases h.own.2 with h' | ⟨g, cap', cur', he, hg, hh, hr⟩
  · exact Or.inl h'
  · refine Or.inr ⟨g, cap', cur', he, hg, (ha.block g (lt_of_some hh) ?_).trans hh, hr⟩
    cases he
    exact h2 g ⟨0, rfl⟩
/-- The hands' second cell holds another slice. -/
theorem hlaid_in {w w1 : World} {hb : Nat} {wa wa' : Option Addr} {wcap wcap' : Nat} {bag bag' : List Pk} (h : HWay w hb wa wcap bag) (hrest : Alike w w1 (onB wa)) (hown : w1.ownsRow 0 109 2 (.slice wa' bag'.length wcap') bag'.length (prow bag')) (hnew : ∀ k, onB wa' k → onB wa k ∨ w.heap.size ≤ k) :
    HLaid w (w1.setCell ⟨hb, 1, none⟩ (.slice wa' bag'.length wcap')) hb wa bag' := by
  obtain ⟨cur, ht⟩ := h.ty
  have hbl := lt_of_some ht
  have hnb : ¬ onB wa hb := h.off ht (by decide)
  have hty : w1.heap[hb]? = some (.cells cur 56 (0, 0)) := (hrest.block hb hbl hnb).trans ht
  have hset := Alike.setCell w1 ⟨hb, 1, none⟩ (.slice wa' bag'.length wcap')
  have hc1 := hrest.cell h.c1 hnb
  refine ⟨⟨wa', wcap', ⟨World.cell?_setCell_same _ _ _ hc1, ⟨hown.1, ?_⟩, _, heap_setCell_same w1 hb 1 cur _ _ hty⟩, hnew⟩, ?_, fun v hv => ?_⟩
  · rcases hown.2 with h' | ⟨g, cap', cur', he, hg, hh, hr⟩
    · exact Or.inl h'
    · refine Or.inr ⟨g, cap', cur', he, hg, (hset.block g (lt_of_some hh) ?_).trans hh, hr⟩
      intro e
      have e' : g = hb := e
      subst e'
      exact ty_ne hh hty (by decide) rfl
  · exact ((Alike.refl w (fun k => k = hb ∨ onB wa k)).trans hrest (fun k _ h => Or.inr h)).trans hset (fun k _ h => Or.inl h)
  · exact (World.cell?_setCell_other _ _ _ _ (by intro h; simp only [Addr.mk.injEq] at h; omega)).trans (hrest.cell hv hnb)
theorem HLaid.refl {w : World} {hb : Nat} {wa : Option Addr} {wcap : Nat} {bag : List Pk} (h : HWay w hb wa wcap bag) : HLaid w w hb wa bag := ⟨⟨wa, wcap, h, fun _ hk => Or.inl hk⟩, Alike.refl _ _, fun _ hv => hv⟩
theorem HLaid.trans {w w1 w2 : World} {hb : Nat} {wa wa' : Option Addr} {bag2 : List Pk} (h1 : Alike w w1 (fun k => k = hb ∨ onB wa k)) (hn : ∀ k, onB wa' k → onB wa k ∨ w.heap.size ≤ k) (h0 : ∀ v, w.cell? ⟨hb, 0, none⟩ = some v → w1.cell? ⟨hb, 0, none⟩ = some v) (h2 : HLaid w1 w2 hb wa' bag2) : HLaid w w2 hb wa bag2 := by
  obtain ⟨wa2, wcap2, hw2, hn2⟩ := h2.how
  refine ⟨⟨wa2, wcap2, hw2, fun k hk => ?_⟩, h1.trans h2.rest (fun k hk he => ?_), fun v hv => h2.c0 v (h0 v hv)⟩
  · rcases hn2 k hk with h | h
    · exact hn k h
    · exact Or.inr (Nat.le_trans h1.size h)
  · rcases he with h | h
    · exact Or.inl h
    · rcases hn k h with h | h
      · exact Or.inr h
      · omega
theorem HLaid.low {w w1 w2 : World} {hb : Nat} {wa : Option Addr} {bag : List Pk} (h : HLaid w w1 hb wa bag) (hb2 : Below w1.heap.size w1 w2) : HLaid w w2 hb wa bag := by
  obtain ⟨wa', wcap', hw, hn⟩ := h.how
  have ha := Alike.of_below hb2 (fun _ => False)
  refine ⟨⟨wa', wcap', hw.alike ha (fun h => h) (fun _ _ h => h), hn⟩, h.rest.trans ha (fun _ _ h => h.elim), fun v hv => ?_⟩
  have h1 := h.c0 v hv
  exact (hb2.cell (p := ⟨hb, 0, none⟩) (lt_of_cell h1)).trans h1
theorem prow_two {ps : List Pk} {i : Nat} {t : Pk} (h : ps[i]? = some t) : (prow ps)[i * 2]? = some (.int .i64 t.to) ∧ (prow ps)[i * 2 + 1]? = some (.string t.text) := by
  induction ps generalizing i with
  | nil => simp at h
  | cons a l ih =>
    cases i with
    | zero =>
      simp at h
      subst h
      exact ⟨rfl, rfl⟩
    | succ i =>
      have h' : l[i]? = some t := by simpa using h
      obtain ⟨e1, e2⟩ := ih h'
      have hp : prow (a :: l) = [.int .i64 a.to, .string a.text] ++ prow l := rfl
      rw [hp]
      constructor
      · rw [List.getElem?_append_right (by simp; omega)]
        simpa [show (i + 1) * 2 - 2 = i * 2 by omega] using e1
      · rw [List.getElem?_append_right (by simp; omega)]
        simpa [show (i + 1) * 2 + 1 - 2 = i * 2 + 1 by omega] using e2
theorem Pks.get {w : World} {base : Nat} {av : Option Addr} {len cap : Nat} {ps : List Pk} (h : Pks w base (.slice av len cap) ps) {i : Nat} {t : Pk} (hi : ps[i]? = some t) : ∃ g, av = some ⟨g, 0, none⟩ ∧ g < w.heap.size ∧ w.cell? ⟨g, i * 2, none⟩ = some (.int .i64 t.to) ∧ w.cell? ⟨g, i * 2 + 1, none⟩ = some (.string t.text) := by
  have hil := (List.getElem?_eq_some_iff.1 hi).1
  obtain ⟨e1, e2⟩ := prow_two hi
  rcases h.own.2 with ⟨he, h0⟩ | ⟨g, cap', cur, he, _, hh, hnc, _, hcs, htk⟩
  · omega
  · simp only [Value.slice.injEq] at he
    obtain ⟨rfl, _, _⟩ := he
    have e : ∀ j u, (prow ps)[j]? = some u → w.cell? ⟨g, j, none⟩ = some u := fun j u hu => by
      rw [cell_of_row w g j cur _ (0, 0) hh, ← Array.getElem?_toList]
      rw [← htk, List.getElem?_take] at hu
      split at hu
      · exact hu
      · cases hu
    exact ⟨g, rfl, lt_of_some hh, e _ _ e1, e _ _ e2⟩
end Go.Proofs.YtabecbjfamphbaaGreatDoor

/- hearsaykeep: Hands.lay. -/
namespace Go.Proofs.YtabecbjfamphbaaGreatDoor
open Go.RowKit Go.Stop Go.Extern

theorem take_snoc {α : Type} {l : List α} {i : Nat} {t : α} (h : l[i]? = some t) : l.take (i + 1) = l.take i ++ [t] := by
  rw [List.take_add_one, h]
  rfl
set_option maxRecDepth 100000 in
set_option maxHeartbeats 2000000 in
theorem hlay_any (hb : Nat) (wa : Option Addr) (wcap : Nat) (bag ps : List Pk) (v : Value) (base : Nat) (w : World) (h : HWay w hb wa wcap bag) (hp : Pks w base v ps) (hne : ∀ k, v.ownBlock = some k → k ≠ hb ∧ ¬ onB wa k) (hl : bag.length + ps.length ≤ 1000000000000) :
    Calls Tryz.prog 55 #[.pointer (some ⟨hb, 0, none⟩), v] w fun e w' => e = .returned (.tuple #[]) ∧ HLaid w w' hb wa (bag ++ ps) := by
  obtain ⟨av, cv, hsh⟩ := rowShaped hp.own
  subst hsh
  have HH : Hid (HWay w hb wa wcap bag) := h
  have HP : Hid (Pks w base (.slice av ps.length cv) ps) := hp
  have HNe : Hid (∀ k, (Value.slice av ps.length cv).ownBlock = some k → k ≠ hb ∧ ¬ onB wa k) := hne
  obtain ⟨i0, hi, hz0, hz1, hz2⟩ := info_parts Tryz.packetInfo
  clear h hp hne
  go_enter Tryz.func55, Tryz.ntmps55
  go_wp2_with fail
  go_loopw [4] (fun c wr => ∃ k : Nat, k ≤ ps.length ∧ c = .int .i64 k ∧ HLaid w wr hb wa (bag ++ ps.take k)) (fun c _ => ps.length - (intOf c).toNat)
  case atStart => exact ⟨0, Nat.zero_le _, rfl, by simpa using HLaid.refl HH.out⟩
  case round =>
    obtain ⟨k, hkn, rfl, hL⟩ := hrel
    have HL : Hid _ := hL
    by_cases hlt : k < ps.length
    · have hki : (k : Int) < (ps.length : Int) := by omega
      obtain ⟨t, ht⟩ : ∃ t, ps[k]? = some t := ⟨ps[k], List.getElem?_eq_getElem _⟩
      obtain ⟨g, hav, hgl, p0, p1⟩ := HP.out.get ht
      subst hav
      obtain ⟨n1, n2⟩ := HNe.out g rfl
      have hng : ¬ (g = hb ∨ onB wa g) := fun hc => hc.elim n1 n2
      have q0 := hL.rest.cell p0 hng
      have q1 := hL.rest.cell p1 hng
      obtain ⟨wa', wcap', hw', hnew⟩ := hL.how
      have HW' : Hid (HWay wr hb wa' wcap' (bag ++ ps.take k)) := hw'
      have HNew : Hid _ := hnew
      have hlen : (bag ++ ps.take k).length ≤ 1000000000000 := by simp; omega
      have hlen1 : (bag ++ ps.take k).length + 1 ≤ 1000000000000 := by simp; omega
      have HTk : Hid (ps.take (k + 1) = ps.take k ++ [t]) := take_snoc ht
      have c1 := hw'.c1
      have fz := frozen_ty hw'.ty 1
      have HO : Hid (∀ x : World, Below wr.heap.size wr x → x.ownsRow 0 109 2 (.slice wa' (bag ++ ps.take k).length wcap') (bag ++ ps.take k).length (prow (bag ++ ps.take k))) := fun x hx => (hw'.alike (Alike.of_below hx (fun _ => False)) (fun h => h) (fun _ _ h => h)).own
      obtain ⟨tn, tx⟩ := t
      simp only at q0 q1
      have hone : ∀ u ∈ ([.int .i64 tn, .string tx] : List Value), u.oneCell' = true := by
        intro u hu
        simp at hu
        rcases hu with rfl | rfl <;> rfl
      generalize hbg : bag ++ ps.take k = bg at *
      have hhb : hb < wr.heap.size := lt_of_cell c1
      have hnb : some hb ≠ (Value.slice wa' bg.length wcap').ownBlock := fun he => by
        obtain ⟨cur, e⟩ := HW'.out.ty
        rcases HW'.out.own.2 with ⟨h, _⟩ | ⟨g', cap', cur', h, _, hh, _⟩
        · rw [h] at he; cases he
        · rw [h] at he
          cases he
          exact ty_ne e hh (by decide) rfl
      clear hL hw' hnew ht p0 p1 n1 n2
      go_wp2_with fail
      go_region_law
        (refine step_append_lies _ rfl (.tmp 15) (.tmp 20) 54 rfl 0 109 i0 _ 2 24 Tryz.underlying54 hi hz0 hz1 hz2 rfl (by decide) (.slice wa' bg.length wcap') bg.length (prow bg) (by simp [Act.eval]) (HO.out _ (by first | exact (below1 _ _).drew | exact ((Below.refl _ _).drew).trans (below1 _ _) | exact below1 _ _)) ⟨wr.heap.size, 0, none⟩ 1 1 [.int .i64 tn, .string tx] (by simp [Act.eval]) rfl (World.news_of_block (heap_alloc_new wr _)) hone (by decide) (by unfold maxLen; omega) (by omega) (Nat.zero_le _) _ rfl ?_; intro g' cap' w1 hown hgrow hat hlt2; have HO1 : Hid (World.ownsRow w1 0 109 2 (.slice (some ⟨g', 0, none⟩) (bg.length + 1) cap') (bg.length + 1) (prow bg ++ [.int .i64 tn, .string tx])) := hown; have HX : Hid (∃ x0 H : World, Below wr.heap.size wr x0 ∧ x0.grownBy w1 (Value.slice wa' bg.length wcap').ownBlock ∧ ((Value.slice wa' bg.length wcap').ownBlock = some g' ∨ g' = H.heap.size) ∧ wr.heap.size ≤ H.heap.size) := ⟨_, _, (by first | exact (below1 _ _).drew | exact ((Below.refl _ _).drew).trans (below1 _ _) | exact below1 _ _), hgrow, hat, (by simp)⟩; have c11 : w1.cell? ⟨hb, 1, none⟩ = some (.slice wa' bg.length wcap') := (hgrow.cell_far ⟨hb, 1, none⟩ (by simp; omega) hnb).trans ((Below.cell (B := wr.heap.size) (w := wr) (by first | exact (below1 _ _).drew | exact ((Below.refl _ _).drew).trans (below1 _ _) | exact below1 _ _) (p := ⟨hb, 1, none⟩) hhb).trans c1); have f11 : w1.frozen? ⟨hb, 1, none⟩ = false := (hgrow.frozen_far ⟨hb, 1, none⟩ (by simp; omega) hnb).trans ((Below.frozen (B := wr.heap.size) (w := wr) (by first | exact (below1 _ _).drew | exact ((Below.refl _ _).drew).trans (below1 _ _) | exact below1 _ _) (p := ⟨hb, 1, none⟩) hhb).trans fz); clear hown hgrow hat hlt2)
      all_goals
        go_wp2_with fail
        go_roundw
        case rel =>
          refine ⟨k + 1, by omega, by go_num, ?_⟩
          obtain ⟨x0, H, hx0, hgr, hat, hH⟩ := HX.out
          have ha : Alike wr w1 (onB wa') := (Alike.of_below hx0 _).trans (Alike.of_grown hgr) (fun k _ hk => by
            rcases HW'.out.own.2 with ⟨he, _⟩ | ⟨g', cap', cur', he, _⟩
            · rw [he] at hk; cases hk
            · cases he
              cases hk
              exact ⟨0, rfl⟩)
          rw [HTk.out, ← List.append_assoc, hbg]
          have hown : w1.ownsRow 0 109 2 (.slice (some ⟨g', 0, none⟩) (bg ++ [(⟨tn, tx⟩ : Pk)]).length cap') (bg ++ [(⟨tn, tx⟩ : Pk)]).length (prow (bg ++ [(⟨tn, tx⟩ : Pk)])) := by
            rw [List.length_append, prow_append]
            exact HO1.out
          have := hlaid_in HW'.out ha hown (fun j ⟨off, hj⟩ => by
            cases hj
            rcases hat with h | h
            · rcases HW'.out.own.2 with ⟨he, _⟩ | ⟨g2, cap2, cur2, he, _⟩
              · rw [he] at h; cases h
              · cases he
                cases h
                exact Or.inl ⟨0, rfl⟩
            · exact Or.inr (by omega))
          rw [List.length_append] at this
          exact HLaid.trans HL.out.rest HNew.out HL.out.c0 this
        case measure => simp [intOf]; omega
    · have hkn' : k = ps.length := by omega
      subst hkn'
      go_wp2_with fail
      refine bodyPost_end (v := .tuple #[]) (by simp [results, Tryz.results55, go_sem]) rfl ⟨rfl, ?_⟩
      have := HL.out
      rw [List.take_length] at this
      exact this
end Go.Proofs.YtabecbjfamphbaaGreatDoor

/- hearsaykeep: Hands.without. -/
namespace Go.Proofs.YtabecbjfamphbaaGreatDoor
open Go.RowKit Go.Stop Go.Extern

theorem erase_at {α : Type} {l : List α} {k : Nat} {t : α} (h : l[k]? = some t) : (l.take (k + 1)).eraseIdx k = (l.take k).eraseIdx k := by
  have hkl := (List.getElem?_eq_some_iff.1 h).1
  have hl : (l.take k).length = k := by simp; omega
  rw [take_snoc h, List.eraseIdx_append_of_length_le (by omega), hl, Nat.sub_self, List.eraseIdx_of_length_le (l := l.take k) (by omega)]
  simp
theorem erase_off {α : Type} {l : List α} {i k : Nat} {t : α} (h : l[i]? = some t) (hne : i ≠ k) : (l.take (i + 1)).eraseIdx k = (l.take i).eraseIdx k ++ [t] := by
  have hkl := (List.getElem?_eq_some_iff.1 h).1
  have hl : (l.take i).length = i := by simp; omega
  rw [take_snoc h]
  rcases Nat.lt_or_ge k i with h1 | h1
  · rw [List.eraseIdx_append_of_lt_length (by omega)]
  · rw [List.eraseIdx_of_length_le (l := l.take i) (by omega), List.eraseIdx_of_length_le (by simp; omega)]
theorem pks_base {w : World} {b : Nat} {ad : Option Addr} {len cap : Nat} {ps : List Pk} (h : Pks w b (.slice ad len cap) ps) {k : Nat} (hk : onB ad k) : b ≤ k := by
  obtain ⟨off, e⟩ := hk
  rcases h.own.2 with ⟨he, _⟩ | ⟨g', cap', cur, he, hg, _⟩
  · rw [e] at he; cases he
  · cases he
    cases e
    exact hg
theorem pks_zero {w : World} {b : Nat} {v : Value} {ps : List Pk} (h : Pks w b v ps) : Pks w 0 v ps := by
  refine ⟨h.own.1, ?_⟩
  rcases h.own.2 with h2 | ⟨g, cap, cur, hv, hg, r⟩
  · exact Or.inl h2
  · exact Or.inr ⟨g, cap, cur, hv, Nat.zero_le _, r⟩
set_option maxRecDepth 100000 in
set_option maxHeartbeats 2000000 in
theorem hwithout_any (hb : Nat) (wa : Option Addr) (wcap : Nat) (bag : List Pk) (k : Nat) (hl : bag.length ≤ 1000000000000) (w : World) (h : HWay w hb wa wcap bag) :
    Calls Tryz.prog 58 #[.pointer (some ⟨hb, 0, none⟩), .int .i64 (k : Int)] w fun e w' => e = .returned (.tuple #[]) ∧ HLaid w w' hb wa (bag.eraseIdx k) := by
  have HH : Hid (HWay w hb wa wcap bag) := h
  have HP : Hid (Pks w 0 (.slice wa bag.length wcap) bag) := ⟨h.own⟩
  have c1 := h.c1
  have fz := frozen_ty h.ty 1
  have hhb : hb < w.heap.size := lt_of_cell c1
  clear h
  go_enter Tryz.func58, Tryz.ntmps58
  go_wp2_with fail
  go_loopw [4, 5] (fun a c wr => ∃ i : Nat, i ≤ bag.length ∧ c = .int .i64 i ∧ Pks wr w.heap.size a ((bag.take i).eraseIdx k) ∧ Below w.heap.size w wr) (fun _ c _ => bag.length - (intOf c).toNat)
  case atStart => exact ⟨0, Nat.zero_le _, rfl, ⟨by simp [prow], Or.inl ⟨rfl, by simp⟩⟩, Below.refl _ _⟩
  case round =>
    obtain ⟨i, hin, rfl, hP, hb1⟩ := hrel
    have HLs : Hid (∃ ls, ls = (bag.take i).eraseIdx k) := ⟨_, rfl⟩
    obtain ⟨ls, hls⟩ := HLs.out
    rw [← hls] at hP
    have HLs2 : Hid (ls = (bag.take i).eraseIdx k) := hls
    clear hls HLs
    have HPs : Hid _ := hP
    obtain ⟨av, cv, hsh⟩ := rowShaped hP.own
    subst hsh
    have HB : Hid (Below w.heap.size w wr) := hb1
    have d1 := (hb1.cell (p := ⟨hb, 1, none⟩) hhb).trans c1
    have hsz := hb1.size
    have fz1 : wr.frozen? ⟨hb, 1, none⟩ = false := (hb1.frozen (p := ⟨hb, 1, none⟩) hhb).trans fz
    clear hP hb1
    by_cases hlt : i < bag.length
    · have hii : (i : Int) < (bag.length : Int) := by omega
      obtain ⟨t, ht⟩ : ∃ t, bag[i]? = some t := ⟨bag[i], List.getElem?_eq_getElem _⟩
      obtain ⟨g, hav, hgl, p0, p1⟩ := HP.out.get ht
      subst hav
      have q0 := (HB.out.cell (p := ⟨g, i * 2, none⟩) hgl).trans p0
      have q1 := (HB.out.cell (p := ⟨g, i * 2 + 1, none⟩) hgl).trans p1
      by_cases hik : i = k
      · subst hik
        have HE : Hid _ := erase_at ht
        go_wp2_with fail
        go_roundw
        case rel => exact ⟨i + 1, by omega, by go_num, by rw [HE.out, ← HLs2.out]; exact HPs.out, HB.out⟩
        case measure => simp [intOf]; omega
      · have HE : Hid (prow ((bag.take (i + 1)).eraseIdx k) = prow ls ++ [.int .i64 t.to, .string t.text] ∧ ((bag.take (i + 1)).eraseIdx k).length = ls.length + 1) := by
          rw [erase_off ht hik, prow_append, List.length_append, ← HLs2.out]
          exact ⟨rfl, rfl⟩
        have hne : ((i : Int) != (k : Int)) = true := by simp; omega
        have hne2 : ((i : Int) == (k : Int)) = false := by simp; omega
        have HLn : Hid (ls.length ≤ 1000000000000) := by
          rw [HLs2.out]
          have h1 := List.length_eraseIdx_le (bag.take i) k
          have h2 : (bag.take i).length ≤ bag.length := by simp; omega
          show _ ≤ _
          omega
        obtain ⟨i1, hj, hy0, hy1, hy2⟩ := info_parts Tryz.packetInfo
        obtain ⟨tn, tx⟩ := t
        simp only at q0 q1 HE
        clear ht p0 p1
        go_wp2_with (at_builtin; refine wpList_append_own _ rfl (.tmp 18) (.tmp 26) 54 rfl w.heap.size 109 i1 _ 2 24 Tryz.underlying54 hj hy0 hy1 hy2 rfl (by decide) _ _ _ rfl (World.ownsRow.alloc HPs.out.own _) ⟨wr.heap.size, 0, none⟩ 1 1 [.int .i64 tn, .string tx] rfl rfl ?c1 ?c2 (by have := HLn.out; unfold maxLen; omega) (by have := HLn.out; omega) (by simp; omega) ?_)
        case c1 =>
          intro q u hq
          match q, hq with
          | 0, hq => simp at hq; subst hq; simp [Addr.add]
          | 1, hq => simp at hq; subst hq; simp [Addr.add]
        case c2 =>
          intro u hu
          simp at hu
          rcases hu with rfl | rfl <;> rfl
        intro v4 w4 hown4 hgrow4 _
        have HG4 : Hid (Pks w4 w.heap.size v4 ((bag.take (i + 1)).eraseIdx k)) := by
          refine ⟨?_⟩
          rw [HE.out.1, HE.out.2]
          exact hown4
        have HB4 : Hid (Below w.heap.size w w4) := (HB.out.alloc hsz _).grown hgrow4 (by simp; omega) HPs.out.block
        obtain ⟨a4, c4', hg4⟩ := rowShaped hown4
        subst hg4
        clear hown4 hgrow4
        go_wp2_with fail
        go_roundw
        case rel => exact ⟨i + 1, by omega, by go_num, HG4.out, HB4.out⟩
        case measure => simp [intOf]; omega
    · have hin' : i = bag.length := by omega
      subst hin'
      have HLe : Hid (ls = bag.eraseIdx k) := by
        show _ = _
        rw [HLs2.out, List.take_length]
      go_wp2_with fail
      refine bodyPost_end (v := .tuple #[]) (by simp [results, Tryz.results58, go_sem]) rfl ⟨rfl, ?_⟩
      rw [← HLe.out]
      exact hlaid_in HH.out (Alike.of_below HB.out _) (pks_zero HPs.out).own (fun j hj => Or.inr (pks_base HPs.out hj))
end Go.Proofs.YtabecbjfamphbaaGreatDoor

/- The face's node: Say, Hear, Tick, Heard, Clock, View, Store. -/
namespace Go.Proofs.YtabecbjfamphbaaGreatDoor
open Go.RowKit Go.Stop Go.Extern

set_option maxRecDepth 100000 in
set_option maxHeartbeats 1000000 in
theorem faceSay (A : Nat → Addr) (base fb b : Nat) (g : Gr) (p : Nat) (s : NS) (F : Nat → Prop) (body : ByteArray) (hg : g.Ok) (hp : p < g.n) (hs : s.Ok g p) (w : World) (hc : w.cell? ⟨fb, 0, none⟩ = some (.pointer (some ⟨b, 0, none⟩))) (hw : Sl w A base) (hF : ∀ k, F k → base ≤ k) (h : NodeAt w b g p s F) :
    Calls Tryz.prog 54 #[.pointer (some ⟨fb, 0, none⟩), .string body] w fun e w' => ∃ v, e = .returned (.tuple #[.int .i64 (s.say g p body).q, v, .int .i64 ((s.say g p body).k : Int)]) ∧ Did w w' b g p F (s.say g p body).s v (s.say g p body).ps := by
  have HC : Hid _ := nodeSay A base b g p s F body hg hp hs w hw hF h
  have HSl : Hid (∀ w1 v, Did w w1 b g p F (s.say g p body).s v (s.say g p body).ps → Sl w1 A base) := fun w1 v hd => hd.sl hw hF
  clear hw hF h hs
  generalize s.say g p body = R at *
  go_enter Tryz.func54, Tryz.ntmps54
  go_wp2_with fail
  refine (show Calls _ _ _ _ _ from HC.out).mono ?_
  rintro e w1 ⟨v, er, rfl, he, hd⟩
  obtain ⟨av, cv, hsh⟩ := rowShaped hd.pks.own
  subst hsh
  have HD : Hid _ := hd
  have HE : Hid _ := he
  have HS1 : Hid _ := HSl.out w1 _ hd
  clear hd he
  go_wp2_with fail
  refine (numberA_any A er R.k HE.out w1 HS1.out.s).mono ?_
  rintro e w2 ⟨rfl, hb2⟩
  have HD2 : Hid _ := HD.out.low hb2
  clear hb2
  go_wp2_with fail
  go_ret3
  exact ⟨_, rfl, HD2.out⟩

set_option maxRecDepth 100000 in
set_option maxHeartbeats 1000000 in
theorem faceHear (A : Nat → Addr) (base fb b : Nat) (g : Gr) (p : Nat) (s : NS) (F : Nat → Prop) (t : ByteArray) (hg : g.Ok) (hp : p < g.n) (hs : s.Ok g p) (ht : t.size ≤ maxLen) (w : World) (hc : w.cell? ⟨fb, 0, none⟩ = some (.pointer (some ⟨b, 0, none⟩))) (hw : Sl w A base) (hF : ∀ k, F k → base ≤ k) (h : NodeAt w b g p s F) :
    Calls Tryz.prog 59 #[.pointer (some ⟨fb, 0, none⟩), .string t] w fun e w' => ∃ v, e = .returned (.tuple #[v, .int .i64 ((s.hear g p t).k : Int)]) ∧ Did w w' b g p F (s.hear g p t).s v (s.hear g p t).ps := by
  have HC : Hid _ := nodeHear A base b g p s F t hg hp hs ht w hw hF h
  have HSl : Hid (∀ w1 v, Did w w1 b g p F (s.hear g p t).s v (s.hear g p t).ps → Sl w1 A base) := fun w1 v hd => hd.sl hw hF
  clear hw hF h hs
  generalize s.hear g p t = R at *
  go_enter Tryz.func59, Tryz.ntmps59
  go_wp2_with fail
  refine (show Calls _ _ _ _ _ from HC.out).mono ?_
  rintro e w1 ⟨v, er, rfl, he, hd⟩
  obtain ⟨av, cv, hsh⟩ := rowShaped hd.pks.own
  subst hsh
  have HD : Hid _ := hd
  have HE : Hid _ := he
  have HS1 : Hid _ := HSl.out w1 _ hd
  clear hd he
  go_wp2_with fail
  refine (numberA_any A er R.k HE.out w1 HS1.out.s).mono ?_
  rintro e w2 ⟨rfl, hb2⟩
  have HD2 : Hid _ := HD.out.low hb2
  clear hb2
  go_wp2_with fail
  go_ret2
  exact ⟨_, rfl, HD2.out⟩
end Go.Proofs.YtabecbjfamphbaaGreatDoor

/- The face's node: NewNode, Tick, Heard, Clock, Store. -/
namespace Go.Proofs.YtabecbjfamphbaaGreatDoor
open Go.RowKit Go.Stop Go.Extern

section
variable (A : Nat → Addr) (base fb b : Nat) (g : Gr) (p : Nat) (s : NS) (F : Nat → Prop)
set_option maxRecDepth 100000 in
set_option maxHeartbeats 1000000 in
theorem faceTick (hg : g.Ok) (hp : p < g.n) (hs : s.Ok g p) (w : World) (hc : w.cell? ⟨fb, 0, none⟩ = some (.pointer (some ⟨b, 0, none⟩))) (hw : Sl w A base) (h : NodeAt w b g p s F) :
    Calls Tryz.prog 56 #[.pointer (some ⟨fb, 0, none⟩)] w fun e w' => (∃ v, e = .returned v ∧ Pks w' w.heap.size v (s.tick g p)) ∧ Below w.heap.size w w' := by
  have HC : Hid _ := nodeTick_any A base b g p s F hg hp hs w hw h
  clear hw h hs
  generalize s.tick g p = R at *
  go_enter Tryz.func56, Tryz.ntmps56
  go_wp2_with fail
  refine (show Calls _ _ _ _ _ from HC.out).mono ?_
  rintro e w1 ⟨⟨v, rfl, hv⟩, hb1⟩
  obtain ⟨av, cv, hsh⟩ := rowShaped hv.own
  subst hsh
  have HV : Hid _ := hv
  have HB : Hid _ := hb1
  clear hv hb1
  go_wp2_with fail
  go_ret
  exact ⟨⟨_, rfl, HV.out⟩, HB.out⟩
set_option maxRecDepth 100000 in
set_option maxHeartbeats 1000000 in
theorem faceHeard (hg : g.Ok) (hp : p < g.n) (hs : s.Ok g p) (w : World) (hc : w.cell? ⟨fb, 0, none⟩ = some (.pointer (some ⟨b, 0, none⟩))) (h : NodeAt w b g p s F) :
    Calls Tryz.prog 30 #[.pointer (some ⟨fb, 0, none⟩)] w fun e w' => (∃ v, e = .returned v ∧ Wrd w' w.heap.size v s.hs) ∧ Below w.heap.size w w' := by
  have HC : Hid _ := nodeHeard_any b g p s F hg hp hs w h
  clear h hs
  go_enter Tryz.func30, Tryz.ntmps30
  go_wp2_with fail
  refine (show Calls _ _ _ _ _ from HC.out).mono ?_
  rintro e w1 ⟨⟨v, rfl, hv⟩, hb1⟩
  obtain ⟨av, cv, hsh⟩ := rowShaped hv
  subst hsh
  have HV : Hid _ := hv
  have HB : Hid _ := hb1
  clear hv hb1
  go_wp2_with fail
  go_ret
  exact ⟨⟨_, rfl, ⟨HV.out⟩⟩, HB.out⟩
set_option maxRecDepth 100000 in
set_option maxHeartbeats 1000000 in
theorem faceStore (hg : g.Ok) (hs : s.Ok g p) (w : World) (hc : w.cell? ⟨fb, 0, none⟩ = some (.pointer (some ⟨b, 0, none⟩))) (h : NodeAt w b g p s F) :
    Calls Tryz.prog 32 #[.pointer (some ⟨fb, 0, none⟩)] w fun e w' => (∃ v, e = .returned v ∧ Wrd w' w.heap.size v s.kept) ∧ Below w.heap.size w w' := by
  have HC : Hid _ := nodeStore_any b g p s F hg hs w h
  clear h hs
  go_enter Tryz.func32, Tryz.ntmps32
  go_wp2_with fail
  refine (show Calls _ _ _ _ _ from HC.out).mono ?_
  rintro e w1 ⟨⟨v, rfl, hv⟩, hb1⟩
  obtain ⟨av, cv, hsh⟩ := rowShaped hv.own
  subst hsh
  have HV : Hid _ := hv
  have HB : Hid _ := hb1
  clear hv hb1
  go_wp2_with fail
  go_ret
  exact ⟨⟨_, rfl, HV.out⟩, HB.out⟩
set_option maxRecDepth 100000 in
set_option maxHeartbeats 1000000 in
theorem faceClock (hg : g.Ok) (hp : p < g.n) (w : World) (hc : w.cell? ⟨fb, 0, none⟩ = some (.pointer (some ⟨b, 0, none⟩))) (h : NodeAt w b g p s F) :
    Calls Tryz.prog 33 #[.pointer (some ⟨fb, 0, none⟩)] w fun e w' => (∃ v, e = .returned v ∧ w'.ownsRow w.heap.size 3 1 v g.n (irow (s.vs.getD p []))) ∧ Below w.heap.size w w' := by
  have HC : Hid _ := nodeClock_any b g p s F hg hp w h
  clear h
  go_enter Tryz.func33, Tryz.ntmps33
  go_wp2_with fail
  refine (show Calls _ _ _ _ _ from HC.out).mono ?_
  rintro e w1 ⟨⟨v, rfl, hv⟩, hb1⟩
  obtain ⟨av, cv, hsh⟩ := rowShaped hv
  subst hsh
  have HV : Hid _ := hv
  have HB : Hid _ := hb1
  clear hv hb1
  go_wp2_with fail
  go_ret
  exact ⟨⟨_, rfl, HV.out⟩, HB.out⟩
end
/-- A node of the face that is new. -/
theorem newNodeK_ok {g : Gr} (hg : g.Ok) {p : Nat} (hp : p < g.n) : newNodeK (g.n : Int) g.W g.B g.L (p : Int) = 0 := by
  unfold newNodeK
  rw [if_pos (by rw [hg.okG, Bool.true_and]; exact decide_eq_true ⟨by omega, by omega⟩)]
set_option maxRecDepth 100000 in
set_option maxHeartbeats 1000000 in
theorem faceNew (A : Nat → Addr) (base : Nat) (g : Gr) (p : Nat) (hg : g.Ok) (hp : p < g.n) (w : World) (hw : Sl w A base) :
    Calls Tryz.prog 27 #[.agg #[.int .i64 (g.n : Int), .int .i64 g.W, .int .i64 g.B, .int .i64 g.L], .int .i64 (p : Int)] w fun e w' => (∃ fb b F, e = .returned (.tuple #[.pointer (some ⟨fb, 0, none⟩), .int .i64 0]) ∧ w'.cell? ⟨fb, 0, none⟩ = some (.pointer (some ⟨b, 0, none⟩)) ∧ NodeAt w' b g p (NS.new g) F ∧ (∀ k, F k → w.heap.size ≤ k ∧ k ≠ fb) ∧ w.heap.size ≤ fb) ∧ Below w.heap.size w w' := by
  have HW : Hid _ := hw
  have HNw : Hid (∀ y, Below w.heap.size w y → Calls Tryz.prog 52 #[.agg #[.int .i64 (g.n : Int), .int .i64 g.W, .int .i64 g.B, .int .i64 g.L], .int .i64 (p : Int)] y fun e w' => (∃ b F, e = .returned (.tuple #[.pointer (some ⟨b, 0, none⟩), .nilIface]) ∧ NodeAt w' b g p (NS.new g) F ∧ ∀ k, F k → y.heap.size ≤ k) ∧ Below y.heap.size y w') := fun y hy => by
    refine (nodeNew_any A base g.n g.W g.B g.L p y (hw.low hy)).mono ?_
    rintro e w' ⟨⟨v, er, rfl, he, _, hyes⟩, hb⟩
    have h0 := newNodeK_ok hg hp
    obtain ⟨b, F, rfl, hn, hF⟩ := hyes h0
    rw [h0] at he
    have her : er = .nilIface := by
      rcases he.how with h | ⟨h, _⟩ | ⟨h, _⟩
      · exact h.1
      · omega
      · omega
    subst her
    exact ⟨⟨b, F, rfl, by simpa using hn, hF⟩, hb⟩
  clear hw
  go_enter Tryz.func27, Tryz.ntmps27
  go_wp2_with fail
  have HX : Hid _ := below1 w (.cells #[.int .i64 (g.n : Int), .int .i64 g.W, .int .i64 g.B, .int .i64 g.L] 26)
  generalize w.alloc (.cells #[.int .i64 (g.n : Int), .int .i64 g.W, .int .i64 g.B, .int .i64 g.L] 26) = X at *
  refine (show Calls _ _ _ _ _ from HNw.out X HX.out).mono ?_
  rintro e w1 ⟨⟨b, F, rfl, hm, hF⟩, hb1⟩
  have HM : Hid _ := hm
  have HF : Hid _ := hF
  have HB1 : Hid _ := bthen HX.out hb1
  clear hm hF hb1
  go_wp2_with fail
  go_ret2
  have hz := HX.out.size
  have hz1 := HB1.out.size
  refine ⟨⟨w1.heap.size, b, F, rfl, ?_, HM.out.low (below1 _ _), fun k hk => ⟨?_, fun hc => ?_⟩, hz1⟩, bthen HB1.out (below1 _ _)⟩
  · rw [cell_of_row _ _ 0 _ _ (0, 0) (heap_alloc_new _ _)]
    rfl
  · have := HF.out k hk
    omega
  · have := HM.out.lt hk
    omega
end Go.Proofs.YtabecbjfamphbaaGreatDoor

/- hearsaykeep: stands. -/
namespace Go.Proofs.YtabecbjfamphbaaGreatDoor
open Go.RowKit Go.Stop Go.Extern

set_option maxRecDepth 100000 in
set_option maxHeartbeats 1000000 in
theorem stands_any (base : Nat) (ad : Option Addr) (cap : Nat) (ws : List Wd) (o q : Int) (b : ByteArray) (pa : Option Addr) (pl pc : Nat) (hl : ws.length ≤ 1000000) (w : World) (h : Wrd w base (.slice ad ws.length cap) ws) :
    Calls Tryz.prog 47 #[.slice ad ws.length cap, .agg #[.int .i64 o, .int .i64 q, .string b, .slice pa pl pc]] w fun e w' => (∃ r, e = .returned (.bool r) ∧ (r = true ↔ (⟨o, q, b⟩ : Wd) ∈ ws)) ∧ Below w.heap.size w w' := by
  have HH : Hid _ := h
  clear h
  go_enter Tryz.func47, Tryz.ntmps47
  go_wp2_with fail
  have HX : Hid _ := below1 w (.cells #[.int .i64 o, .int .i64 q, .string b, .slice pa pl pc] 93)
  have HBx : Hid (w.heap.size < (w.alloc (.cells #[.int .i64 o, .int .i64 q, .string b, .slice pa pl pc] 93)).heap.size ∧ (w.alloc (.cells #[.int .i64 o, .int .i64 q, .string b, .slice pa pl pc] 93)).cell? ⟨w.heap.size, 0, none⟩ = some (.int .i64 o) ∧ (w.alloc (.cells #[.int .i64 o, .int .i64 q, .string b, .slice pa pl pc] 93)).cell? ⟨w.heap.size, 1, none⟩ = some (.int .i64 q) ∧ (w.alloc (.cells #[.int .i64 o, .int .i64 q, .string b, .slice pa pl pc] 93)).cell? ⟨w.heap.size, 2, none⟩ = some (.string b)) := by
    have e : ∀ i, (w.alloc (.cells #[.int .i64 o, .int .i64 q, .string b, .slice pa pl pc] 93)).cell? ⟨w.heap.size, i, none⟩ = #[Value.int .i64 o, .int .i64 q, .string b, .slice pa pl pc][i]? := fun i => cell_of_row _ _ i _ _ (0, 0) (heap_alloc_new _ _)
    exact ⟨by simp, e 0, e 1, e 2⟩
  generalize w.alloc (.cells #[.int .i64 o, .int .i64 q, .string b, .slice pa pl pc] 93) = X at *
  go_loopw [5] (fun c wr => ∃ k : Nat, k ≤ ws.length ∧ c = .int .i64 k ∧ (⟨o, q, b⟩ : Wd) ∉ ws.take k ∧ Below X.heap.size X wr) (fun c _ => ws.length - (intOf c).toNat)
  case atStart => exact ⟨0, Nat.zero_le _, rfl, by simp, Below.refl _ _⟩
  case round =>
    obtain ⟨k, hkn, rfl, hno, hb⟩ := hrel
    have HNo : Hid _ := hno
    have HB : Hid (Below X.heap.size X wr) := hb
    have HBw : Hid (Below w.heap.size w wr) := bthen HX.out hb
    have d0 := (hb.cell (p := ⟨w.heap.size, 0, none⟩) HBx.out.1).trans HBx.out.2.1
    have d1 := (hb.cell (p := ⟨w.heap.size, 1, none⟩) HBx.out.1).trans HBx.out.2.2.1
    have d2 := (hb.cell (p := ⟨w.heap.size, 2, none⟩) HBx.out.1).trans HBx.out.2.2.2
    clear hno hb
    by_cases hlt : k < ws.length
    · have hki : (k : Int) < (ws.length : Int) := by omega
      obtain ⟨t, ht⟩ : ∃ t, ws[k]? = some t := ⟨ws[k], List.getElem?_eq_getElem _⟩
      obtain ⟨gb, rfl, _, t0, t1, t2⟩ := HH.out.get ht
      have t0' := (HBw.out.cell (p := ⟨gb, k * 3, none⟩) (lt_of_cell t0)).trans t0
      have t1' := (HBw.out.cell (p := ⟨gb, k * 3 + 1, none⟩) (lt_of_cell t0)).trans t1
      have t2' := (HBw.out.cell (p := ⟨gb, k * 3 + 2, none⟩) (lt_of_cell t0)).trans t2
      have HT : Hid _ := ht
      have HTk : Hid (ws.take (k + 1) = ws.take k ++ [t]) := by
        show _ = _
        rw [List.take_add_one, ht]
        rfl
      clear ht t0 t1 t2
      by_cases heq : t = ⟨o, q, b⟩
      · subst heq
        have HM : Hid ((⟨o, q, b⟩ : Wd) ∈ ws) := List.mem_of_getElem? HT.out
        simp only at t0' t1' t2'
        go_wp2_with fail
        go_quiet (fail)
        go_wp2_with fail
        go_ret
        exact ⟨⟨true, rfl, fun _ => HM.out, fun _ => rfl⟩, by first | exact HBw.out | exact HBw.out.drew | exact below_drewN HBw.out _⟩
      · have HN : Hid ((⟨o, q, b⟩ : Wd) ∉ ws.take (k + 1)) := by
          show ¬ _
          rw [HTk.out, List.mem_append, List.mem_singleton]
          rintro (h | h)
          · exact HNo.out h
          · exact heq h.symm
        obtain ⟨to, tq, tb⟩ := t
        simp only at t0' t1' t2'
        clear HT HTk
        by_cases h1 : to = o
        · subst h1
          by_cases h2 : tq = q
          · subst h2
            have h3 : ¬ tb.toList = b.toList := fun e => heq (by
              rw [ByteArray.toList_eq, ByteArray.toList_eq] at e
              have e2 := Array.toList_inj.1 e
              cases tb
              cases b
              simp only at e2
              rw [e2])
            have h4 : (tb.toList == b.toList) = false := by simp [h3]
            clear heq
            go_wp2_with fail
            go_quiet (fail)
            go_wp2_with fail
            go_roundw
            case rel => exact ⟨k + 1, by omega, by go_num, HN.out, by first | exact HB.out | exact HB.out.drew | exact below_drewN HB.out _⟩
            case measure => simp [intOf]; omega
          · clear heq
            go_wp2_with fail
            go_quiet (fail)
            go_wp2_with fail
            go_roundw
            case rel => exact ⟨k + 1, by omega, by go_num, HN.out, by first | exact HB.out | exact HB.out.drew | exact below_drewN HB.out _⟩
            case measure => simp [intOf]; omega
        · clear heq
          go_wp2_with fail
          go_quiet (fail)
          go_wp2_with fail
          go_roundw
          case rel => exact ⟨k + 1, by omega, by go_num, HN.out, by first | exact HB.out | exact HB.out.drew | exact below_drewN HB.out _⟩
          case measure => simp [intOf]; omega
    · have hkn' : k = ws.length := by omega
      subst hkn'
      have HN : Hid ((⟨o, q, b⟩ : Wd) ∉ ws) := by
        have h1 := HNo.out
        show ¬ _
        intro hc
        rw [List.take_length] at h1
        exact h1 hc
      go_wp2_with fail
      go_ret
      exact ⟨⟨false, rfl, fun h => (by cases h), fun h => absurd h HN.out⟩, HBw.out⟩
end Go.Proofs.YtabecbjfamphbaaGreatDoor

/- hearsaykeep: empty, agreed. -/
namespace Go.Proofs.YtabecbjfamphbaaGreatDoor
open Go.RowKit Go.Stop Go.Extern

theorem store_net {g : Gr} {x : MNet} {p : Nat} (hp : p < g.n) : x.storeR g p = ⟨(x.nd p).kept, 0⟩ := by
  unfold MNet.storeR
  rw [if_pos (show isNode g.n p = true from decide_eq_true ⟨by omega, by omega⟩)]
  rfl
theorem heard_net {g : Gr} {x : MNet} {p : Nat} (hp : p < g.n) : x.heardR g p = ⟨(x.nd p).hs, 0⟩ := by
  unfold MNet.heardR
  rw [if_pos (show isNode g.n p = true from decide_eq_true ⟨by omega, by omega⟩)]
  rfl
set_option maxRecDepth 100000 in
set_option maxHeartbeats 1000000 in
theorem empty_any (A : Nat → Addr) (base z rb : Nat) (g : Gr) (x : MNet) (sd : List Sd) (sn : List Sn) (hg : g.Ok) (hx : x.Ok g) (hk : ∀ p, p < g.n → (x.nd p).kept = []) (w : World) (hw : Sl w A base) (h : CircZ z w rb g x sd sn) :
    Calls Tryz.prog 19 #[.pointer (some ⟨rb, 0, none⟩)] w fun e w' => e = .returned (.bool true) ∧ Below w.heap.size w w' := by
  have hn8 := hg.n.2
  obtain ⟨C, hC, _⟩ := h.how
  have HC : Hid (Circ w rb g x sd sn C) := hC
  have HSt : Hid (∀ y p, p < g.n → Below w.heap.size w y → Calls Tryz.prog 31 #[.pointer (some ⟨C.fb, 0, none⟩), .int .i64 ((p : Nat) : Int)] y fun e w' => (∃ v, e = .returned (.tuple #[v, .int .i64 0]) ∧ Wrd w' y.heap.size v []) ∧ Below y.heap.size y w') := fun y p hp hy => by
    have h1 := netStore A base C.fb g x C.Fx p hg hx y (hw.low hy) (hC.net.low hy)
    rw [store_net hp, hk p hp] at h1
    exact h1
  clear hw hx h hC hk
  go_enter Tryz.func19, Tryz.ntmps19
  go_wp2_with fail
  go_loopw [3] (fun c wr => ∃ k : Nat, k ≤ g.n ∧ c = .int .i64 k ∧ Below w.heap.size w wr) (fun c _ => g.n - (intOf c).toNat)
  case atStart => exact ⟨0, Nat.zero_le _, rfl, Below.refl _ _⟩
  case round =>
    obtain ⟨k, hkn, rfl, hb⟩ := hrel
    have HB : Hid (Below w.heap.size w wr) := hb
    have c0 := (HC.out.low hb).c0
    have c4 := (HC.out.low hb).c4
    clear hb
    by_cases hlt : k < g.n
    · have hki : (k : Int) < (g.n : Int) := by omega
      go_wp2_with fail
      refine (show Calls _ _ _ _ _ from HSt.out wr k hlt HB.out).mono ?_
      rintro e w1 ⟨⟨v, rfl, hv⟩, hb1⟩
      obtain ⟨av, cv, hsh⟩ := rowShaped hv.own
      subst hsh
      have HB1 : Hid (Below w.heap.size w w1) := bthen HB.out hb1
      clear hv hb1
      go_wp2_with fail
      go_roundw
      case rel => exact ⟨k + 1, by omega, by go_num, HB1.out⟩
      case measure => simp [intOf]; omega
    · have hkn' : k = g.n := by omega
      subst hkn'
      go_wp2_with fail
      go_ret
      exact ⟨rfl, HB.out⟩
set_option maxRecDepth 100000 in
set_option maxHeartbeats 1000000 in
theorem agreed_any (A : Nat → Addr) (base z rb : Nat) (g : Gr) (x : MNet) (sd : List Sd) (sn : List Sn) (hg : g.Ok) (hx : x.Ok g) (hln : sd.length ≤ 10000000) (hsn : Seen x sn) (hok : ∀ p, p < g.n → CausedOk g.n sd (x.nd p).hs) (hall : ∀ p, p < g.n → (x.nd p).hs.length = sd.length) (w : World) (hw : Sl w A base) (hz : base ≤ z) (h : CircZ z w rb g x sd sn) :
    Calls Tryz.prog 18 #[.pointer (some ⟨rb, 0, none⟩)] w fun e w' => e = .returned (.bool true) ∧ (∃ sn', CircZ z w' rb g x sd sn' ∧ Seen x sn') ∧ Below z w w' := by
  have hn8 := hg.n.2
  have HCz : Hid _ := h
  have HLk : Hid (∀ y, Below w.heap.size w y → Calls Tryz.prog 16 #[.pointer (some ⟨rb, 0, none⟩)] y fun e w' => e = .returned (.bool true) ∧ (∃ sn', CircZ z w' rb g x sd sn' ∧ Seen x sn') ∧ Below z y w') := fun y hy => looked_any A base z rb g x sd sn hg hx hln hsn hok y (hw.low hy) hz (h.low hy)
  obtain ⟨C, hC, _⟩ := h.how
  have HC : Hid (Circ w rb g x sd sn C) := hC
  have HSt : Hid (∀ y p, p < g.n → Below w.heap.size w y → Calls Tryz.prog 29 #[.pointer (some ⟨C.fb, 0, none⟩), .int .i64 ((p : Nat) : Int)] y fun e w' => (∃ v, e = .returned (.tuple #[v, .int .i64 0]) ∧ Wrd w' y.heap.size v (x.nd p).hs) ∧ Below y.heap.size y w') := fun y p hp hy => by
    have h1 := netHeard A base C.fb g x C.Fx p hg hx y (hw.low hy) (hC.net.low hy)
    rw [heard_net hp] at h1
    exact h1
  have HAll : Hid _ := hall
  clear hw hx h hC hall hsn hok
  go_enter Tryz.func18, Tryz.ntmps18
  go_wp2_with fail
  go_loopw [3] (fun c wr => ∃ k : Nat, k ≤ g.n ∧ c = .int .i64 k ∧ Below w.heap.size w wr) (fun c _ => g.n - (intOf c).toNat)
  case atStart => exact ⟨0, Nat.zero_le _, rfl, Below.refl _ _⟩
  case round =>
    obtain ⟨k, hkn, rfl, hb⟩ := hrel
    have HB : Hid (Below w.heap.size w wr) := hb
    have c0 := (HC.out.low hb).c0
    have c4 := (HC.out.low hb).c4
    clear hb
    by_cases hlt : k < g.n
    · have hki : (k : Int) < (g.n : Int) := by omega
      go_wp2_with fail
      refine (show Calls _ _ _ _ _ from HSt.out wr k hlt HB.out).mono ?_
      rintro e w1 ⟨⟨v, rfl, hv⟩, hb1⟩
      obtain ⟨av, cv, hsh⟩ := rowShaped hv.own
      subst hsh
      have HB1 : Hid (Below w.heap.size w w1) := bthen HB.out hb1
      have c5 := (HC.out.low HB1.out).c5
      rw [HAll.out k hlt]
      clear hv hb1
      go_wp2_with fail
      go_roundw
      case rel => exact ⟨k + 1, by omega, by go_num, HB1.out⟩
      case measure => simp [intOf]; omega
    · have hkn' : k = g.n := by omega
      subst hkn'
      go_wp2_with fail
      refine (show Calls _ _ _ _ _ from HLk.out wr HB.out).mono ?_
      rintro e w1 ⟨rfl, hs1, hb1⟩
      have HS1 : Hid _ := hs1
      have HB1 : Hid (Below z w w1) := (HB.out.mono HCz.out.le).trans hb1
      clear hs1 hb1
      go_wp2_with fail
      go_ret
      exact ⟨rfl, HS1.out, HB1.out⟩
end Go.Proofs.YtabecbjfamphbaaGreatDoor

/- What a round makes of a circle, as plain data. -/
namespace Go.Proofs.YtabecbjfamphbaaGreatDoor
open Go.RowKit Go.Stop Go.Extern

section
variable {g : Gr} {x : MNet} {sd : List Sd} {sn : List Sn} {bag : List (Nat × Msg)} {said : List Fm} {m : Nat}
theorem Run.ok2 (h : Run g x sd sn bag said m) (hg : g.Ok) (hm : m ≤ 190000000) : x.Ok g := ⟨h.net.inv.ok, fun t ht => ⟨(h.text hg t ht).1, (h.text hg t ht).2.1⟩, fun p hp => ⟨(h.ref p hp).1, by have := (h.ref p hp).2; omega⟩, by
  have := h.few
  rw [h.enc, List.length_map]
  omega⟩
/-- A circle amid a round that began with the nodes nd0. -/
structure Rnd (g : Gr) (nd0 : Nat → NS) (x : MNet) (sd : List Sd) (sn : List Sn) (bag : List (Nat × Msg)) (said : List Fm) (m : Nat) : Prop where
  run : Run g x sd sn bag said m
  p1 : Pend1 g x.nd bag said
  p2 : Pend2 g x.nd bag (clk nd0)
  up : ∀ r o, r < g.n → o < g.n → clk nd0 r o ≤ clk x.nd r o
noncomputable def potR (g : Gr) (x : MNet) (bag : List (Nat × Msg)) (said : List Fm) : Nat := bag.length + g.n * lacks g x.nd said
theorem deliver_nd2 (g : Gr) (x : MNet) (k to : Nat) (y : Msg) : (x.deliver g k (encP g (to, y))).nd = upd x.nd to ((x.nd to).hear g to (y.text g)).s := by
  unfold MNet.deliver
  show MNet.nd (let r := (x.nd ((to : Int).toNat)).hear g ((to : Int).toNat) (y.text g); let z : MNet := { x.put ((to : Int).toNat) r.s with bag := x.bag.eraseIdx k ++ r.ps }; if r.k = 0 then z else z.refuse ((to : Int).toNat)) = _
  rw [Int.toNat_natCast]
  simp only
  split <;> rfl
theorem Rnd.begin (h : Run g x sd sn bag said m) (hb : ∀ p, p < g.n → ∀ y ∈ tickM g p (x.nd p), y ∈ bag) : Rnd g x.nd x sd sn bag said m := by
  obtain ⟨h1, h2⟩ := tick_pend h.net.inv hb
  exact ⟨h, h1, h2, fun _ _ _ _ => Int.le_refl _⟩
theorem Rnd.deliver {nd0 : Nat → NS} (h : Rnd g nd0 x sd sn bag said m) (hg : g.Ok) {k to : Nat} {y : Msg} (hk : bag[k]? = some (to, y)) :
    (((x.nd to).hear g to (y.text g)).k = 0 ∨ ((x.nd to).hear g to (y.text g)).k = 7) ∧ ∃ bag', Rnd g nd0 (x.deliver g k (encP g (to, y))) sd sn bag' said (m + 1) ∧ potR g (x.deliver g k (encP g (to, y))) bag' said + 1 ≤ potR g x bag said := by
  obtain ⟨h1, h2⟩ := h.run.deliver hg hk
  refine ⟨h1, bag.eraseIdx k ++ ((x.nd to).hearM g to y).2.1, ?_⟩
  have hgd := h.run.net.good _ (List.mem_of_getElem? hk)
  have hms := GoodP.msg h.run.net.inv hgd
  have hh := hear_text hg (p := to) (s := x.nd to) hms
  obtain ⟨hs, _⟩ := h.run.net.deliver hk
  have hnd : (x.deliver g k (encP g (to, y))).nd = upd x.nd to ((x.nd to).hearM g to y).2.2 := by rw [deliver_nd2, hh]
  have hpot := hs.pot hgd.to
  have hkl := (List.getElem?_eq_some_iff.1 hk).1
  refine ⟨⟨h2, ?_, ?_, ?_⟩, ?_⟩
  · rw [hnd]
    exact h.p1.step hk hs
  · rw [hnd]
    exact h.p2.step hk hs
  · rw [hnd]
    exact fun r o hr ho => Int.le_trans (h.up r o hr ho) (hs.clk r o hr ho)
  · unfold potR
    rw [hnd, List.length_append, List.length_eraseIdx, if_pos hkl]
    omega
end
theorem countP_one {l : List Fm} (hd : l.Pairwise (fun a b => ¬ SameK a b)) {f : Fm} (hf : f ∈ l) {p p' : Fm → Bool} (h0 : p f = false) (h1 : p' f = true) (hne : ∀ a ∈ l, ¬ SameK a f → p' a = p a) : l.countP p' = l.countP p + 1 := by
  induction l with
  | nil => cases hf
  | cons a l ih =>
    obtain ⟨ha, hl⟩ := List.pairwise_cons.1 hd
    rcases List.mem_cons.1 hf with e | e
    · subst e
      have hc : l.countP p' = l.countP p := List.countP_congr fun b hb => by
        rw [hne b (List.mem_cons_of_mem _ hb) (fun hs => ha b hb ⟨hs.1.symm, hs.2.symm⟩)]
      rw [List.countP_cons_of_pos h1, List.countP_cons_of_neg (by simp [h0]), hc]
    · have hi := ih hl e (fun b hb => hne b (List.mem_cons_of_mem _ hb))
      have hpa := hne a List.mem_cons_self (ha f e)
      rw [List.countP_cons, List.countP_cons, hpa, hi]
      omega
theorem HV.count {g : Gr} {said : List Fm} {hs : List Wd} (h : HV g said hs) (hok : ∀ f ∈ said, f.Ok g) (hd : said.Pairwise (fun a b => ¬ SameK a b)) : hs.length = said.countP (fun f => decide (f.seq ≤ (cntW hs f.org.toNat : Int))) := by
  induction h with
  | none =>
    symm
    rw [List.length_nil, List.countP_eq_zero]
    intro f hf hc
    have h1 := of_decide_eq_true hc
    have h2 := (hok f hf).seq.1
    simp [cntW] at h1
    omega
  | more h0 hf hsq hvec ih =>
    rename_i hs f
    have hfo := (hok f hf).org_eq
    have hcn : ∀ a ∈ said, cntW (hs ++ [f.word]) a.org.toNat = cntW hs a.org.toNat + if f.org = a.org then 1 else 0 := fun a ha => by
      rw [cntW_append, (hok a ha).org_eq]
      rfl
    rw [List.length_append, ih]
    symm
    refine countP_one hd hf (decide_eq_false (by omega)) (decide_eq_true (by rw [hcn f hf, if_pos rfl]; omega)) (fun a ha hns => ?_)
    rw [hcn a ha]
    by_cases e : f.org = a.org
    · rw [if_pos e]
      have hne : a.seq ≠ f.seq := fun e2 => hns ⟨e.symm, e2⟩
      have e' : a.org.toNat = f.org.toNat := by rw [e]
      rw [e'] at *
      apply decide_eq_decide.2
      constructor <;> intro h <;> omega
    · rw [if_neg e]
      simp
/-- Who has heard all has heard as many words as were said. -/
theorem all_heard {g : Gr} {nd : Nat → NS} {said : List Fm} (h : Inv g nd said) {p : Nat} (hp : p < g.n) (hall : ∀ f ∈ said, f.seq ≤ clk nd p f.org.toNat) : (nd p).hs.length = said.length := by
  rw [(h.heard p hp).count h.sok h.dist, List.countP_eq_length]
  intro f hf
  have h1 := hall f hf
  have h2 := (h.ok p hp).clk.cnt f.org.toNat (h.sok f hf).lt
  unfold clk at h1
  exact decide_eq_true (by omega)
theorem lacks_none {g : Gr} {nd : Nat → NS} {said : List Fm} (hall : ∀ p f, p < g.n → f ∈ said → f.seq ≤ clk nd p f.org.toNat) : lacks g nd said = 0 := by
  have h : lacks g nd said ≤ g.n * 0 := total_le (fun q hq => by
    refine Nat.le_of_eq (List.countP_eq_zero.2 fun f hf hc => ?_)
    exact @of_decide_eq_true _ (Classical.propDecidable _) hc (Or.inl (hall q f hq hf)))
  omega
/-- Between the two rounds: all have heard all. -/
theorem Rnd.end1 {g : Gr} {nd0 : Nat → NS} {x : MNet} {sd : List Sd} {sn : List Sn} {said : List Fm} {m : Nat} (h : Rnd g nd0 x sd sn [] said m) : (∀ p, p < g.n → (x.nd p).hs.length = sd.length) ∧ (∀ p f, p < g.n → f ∈ said → f.seq ≤ clk x.nd p f.org.toNat) := by
  obtain ⟨h1, _⟩ := round1 h.run.net.inv h.p1
  exact ⟨fun p hp => by rw [h.run.len]; exact all_heard h.run.net.inv hp (fun f hf => h1 p f hp hf), h1⟩
/-- Behind the second: no store keeps a word. -/
theorem Rnd.end2 {g : Gr} {nd0 : Nat → NS} {x : MNet} {sd : List Sd} {sn : List Sn} {said : List Fm} {m : Nat} (h : Rnd g nd0 x sd sn [] said m) (h0 : ∀ p f, p < g.n → f ∈ said → f.seq ≤ clk nd0 p f.org.toNat) : ∀ p, p < g.n → (x.nd p).kept = [] ∧ g.low (x.nd p).vs p = vw (x.nd p).vs p p := by
  intro p hp
  obtain ⟨h1, h2⟩ := round2 h.run.net.inv (C := clk nd0) h0 h.up (fun q o hq ho => Int.le_trans (h.up q o hq ho) ((h.run.net.inv.ok q hq).clk.bd q o hq ho).2) h.p2 p hp
  exact ⟨by unfold NS.kept; rw [h1]; rfl, h2⟩
end Go.Proofs.YtabecbjfamphbaaGreatDoor

/- hearsaykeep: freed. -/
namespace Go.Proofs.YtabecbjfamphbaaGreatDoor
open Go.RowKit Go.Stop Go.Extern

/-- What freed asks of a node. -/
structure FreedOk (g : Gr) (x : MNet) (sd : List Sd) (p : Nat) : Prop where
  all : ∀ s ∈ sd, (⟨s.org, s.seq, s.body⟩ : Wd) ∈ (x.nd p).hs → (⟨s.org, s.seq, s.body⟩ : Wd) ∉ (x.nd p).kept → ∃ o : Nat, s.org = o ∧ o < g.n ∧ ∀ q, q < g.n → s.seq ≤ (cntW (x.nd q).hs o : Int)
  said : ∀ (i : Nat) (t : Wd), (x.nd p).kept[i]? = some t → (∃ o : Nat, t.org = o ∧ o < g.n ∧ (cntW (x.nd p).kept o : Int) ≤ g.W) ∧ (∃ s ∈ sd, s.org = t.org ∧ s.seq = t.seq) ∧ ∀ s ∈ sd, s.org = t.org → s.seq = t.seq → s.body = t.body
  sort : ∀ (i : Nat) (t u : Wd), (x.nd p).kept[i]? = some t → (x.nd p).kept[i + 1]? = some u → t.org < u.org ∨ (t.org = u.org ∧ t.seq < u.seq)
theorem HV.le {g : Gr} {said : List Fm} {hs : List Wd} (h : HV g said hs) (hok : ∀ f ∈ said, f.Ok g) : ∀ t ∈ hs, t.seq ≤ (cntW hs t.org.toNat : Int) := by
  induction h with
  | none => exact fun t ht => by cases ht
  | more h0 hf hsq hvec ih =>
    rename_i hs f
    have hfo := (hok f hf).org_eq
    intro t ht
    rw [cntW_append]
    rcases List.mem_append.1 ht with h1 | h1
    · have := ih t h1
      split <;> omega
    · rw [List.mem_singleton] at h1
      subst h1
      have e : f.word.org = ((f.word.org.toNat : Nat) : Int) := by show f.org = _; exact hfo.symm
      rw [if_pos e]
      show f.seq ≤ _
      rw [show f.word.org.toNat = f.org.toNat from rfl]
      omega
theorem cntW_kept (s : NS) (o : Nat) : cntW s.kept o = (s.st.filter (fun f => decide (f.org = (o : Int)))).length := by
  unfold cntW NS.kept
  rw [List.countP_map, List.countP_eq_length_filter]
  rfl
theorem Run.freed {g : Gr} {x : MNet} {sd : List Sd} {sn : List Sn} {bag : List (Nat × Msg)} {said : List Fm} {m : Nat} (h : Run g x sd sn bag said m) (hg : g.Ok) {p : Nat} (hp : p < g.n) : FreedOk g x sd p := by
  have hI := h.net.inv
  have hof : ∀ s ∈ sd, ∃ f ∈ said, SdOf g.n s f := fun s hs => by
    obtain ⟨j, hj⟩ := List.mem_iff_getElem?.1 hs
    have hjl := (List.getElem?_eq_some_iff.1 hj).1
    have hl := h.len
    have hjf : said[j]? = some said[j] := List.getElem?_eq_getElem (by omega)
    exact ⟨_, List.mem_of_getElem? hjf, h.same j s _ hj hjf⟩
  have hsd : ∀ f ∈ said, ∃ s ∈ sd, SdOf g.n s f := fun f hf => by
    obtain ⟨j, hj⟩ := List.mem_iff_getElem?.1 hf
    have hjl := (List.getElem?_eq_some_iff.1 hj).1
    have hl := h.len
    have hjs : sd[j]? = some sd[j] := List.getElem?_eq_getElem (by omega)
    exact ⟨_, List.mem_of_getElem? hjs, h.same j _ f hjs hj⟩
  have hkp : ∀ t ∈ (x.nd p).kept, ∃ f ∈ (x.nd p).st, f.word = t := fun t ht => List.mem_map.1 ht
  refine ⟨fun s hs hm hk => ?_, fun i t hi => ?_, fun i t u hi hu => ?_⟩
  · obtain ⟨f, hf, h1, h2, h3, _⟩ := hof s hs
    have hw : f.word = (⟨s.org, s.seq, s.body⟩ : Wd) := by unfold Fm.word; rw [h1, h2, h3]
    have hfo := hI.sok f hf
    refine ⟨f.org.toNat, h1.trans hfo.org_eq.symm, hfo.lt, fun q hq => ?_⟩
    have hle := (hI.heard p hp).le hI.sok _ hm
    have hc : f.seq ≤ clk x.nd p f.org.toNat := by
      show f.seq ≤ vw (x.nd p).vs p f.org.toNat
      rw [(hI.ok p hp).clk.cnt _ hfo.lt, ← h2]
      have e : (⟨s.org, s.seq, s.body⟩ : Wd).org.toNat = f.org.toNat := by show s.org.toNat = _; rw [h1]
      rw [e] at hle
      exact hle
    have hns : f ∉ (x.nd p).st := fun hc' => hk (by rw [← hw]; exact List.mem_map.2 ⟨f, hc', rfl⟩)
    have h4 := hI.freed hp hq hf hc hns
    rw [h2]
    rw [← (hI.ok q hq).clk.cnt _ hfo.lt]
    exact h4
  · obtain ⟨f, hf, rfl⟩ := hkp t (List.mem_of_getElem? hi)
    have hfs := hI.st p hp f hf
    have hfo := hI.sok f hfs
    refine ⟨⟨f.org.toNat, hfo.org_eq.symm, hfo.lt, ?_⟩, ?_, fun s hs ho hq => ?_⟩
    · rw [cntW_kept]
      have h1 := (hI.ok p hp).few f.org.toNat
      have h2 := hg.W
      omega
    · obtain ⟨s, hs, h1, h2, _⟩ := hsd f hfs
      exact ⟨s, hs, h1, h2⟩
    · obtain ⟨f', hf', h1, h2, h3, _⟩ := hof s hs
      have e : f' = f := dist_eq hI.dist hf' hfs ⟨h1.symm.trans ho, h2.symm.trans hq⟩
      rw [h3, e]
      rfl
  · have hso := (hI.ok p hp).sorted
    unfold NS.kept at hi hu
    rw [List.getElem?_map] at hi hu
    cases hf1 : (x.nd p).st[i]? with
    | none => rw [hf1] at hi; cases hi
    | some f1 =>
      cases hf2 : (x.nd p).st[i + 1]? with
      | none => rw [hf2] at hu; cases hu
      | some f2 =>
        rw [hf1] at hi
        rw [hf2] at hu
        simp at hi hu
        subst hi hu
        obtain ⟨l1, e1⟩ := List.getElem?_eq_some_iff.1 hf1
        obtain ⟨l2, e2⟩ := List.getElem?_eq_some_iff.1 hf2
        have := List.pairwise_iff_getElem.1 hso i (i + 1) l1 l2 (by omega)
        rw [e1, e2] at this
        exact this
end Go.Proofs.YtabecbjfamphbaaGreatDoor
