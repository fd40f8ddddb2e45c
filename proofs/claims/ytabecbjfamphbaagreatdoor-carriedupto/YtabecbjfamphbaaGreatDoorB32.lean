/-
  Texts that the proofs of this seat share, joined: Kc, Kd, Kf.
-/
import Derived.Test.YtabecbjfamphbaaGreatDoorB31
import Derived.BigRegion
/- hearsaykeep: counting what was heard. -/
namespace Go.Proofs.YtabecbjfamphbaaGreatDoor
open Go.RowKit Go.Stop Go.Extern

/-- Of each node's words, how many. -/
def cnts (n : Nat) (ws : List Wd) : List Int := (List.range n).map (fun o => (cntW ws o : Int))
theorem cnts_length (n : Nat) (ws : List Wd) : (cnts n ws).length = n := by simp [cnts]
theorem cnts_get {n : Nat} {ws : List Wd} {o : Nat} (h : o < n) : (cnts n ws).getD o 0 = (cntW ws o : Int) := by
  simp [cnts, List.getD_eq_getElem?_getD, h]
theorem cnts_nil (n : Nat) : cnts n [] = List.replicate n 0 := by
  apply List.ext_getElem
  · simp [cnts]
  · intro i h1 h2
    simp [cnts, cntW]
theorem cnts_more {n : Nat} {ws : List Wd} {x : Wd} {o : Nat} (ho : x.org = o) : cnts n (ws ++ [x]) = (cnts n ws).set o ((cnts n ws).getD o 0 + 1) := by
  apply List.ext_getElem
  · simp [cnts]
  · intro i h1 h2
    have hi : i < n := by simpa [cnts] using h1
    rw [List.getElem_set]
    simp only [cnts, List.getElem_map, List.getElem_range, cntW_append, ho]
    by_cases e : o = i
    · subst e
      simp [List.getD_eq_getElem?_getD, hi]
    · rw [if_neg e, if_neg (by omega)]
      simp
theorem cnts_same {n : Nat} {ws : List Wd} {x : Wd} (ho : ¬ (0 ≤ x.org ∧ x.org < n)) : cnts n (ws ++ [x]) = cnts n ws := by
  apply List.ext_getElem
  · simp [cnts]
  · intro i h1 h2
    have hi : i < n := by simpa [cnts] using h1
    simp only [cnts, List.getElem_map, List.getElem_range, cntW_append]
    rw [if_neg (by omega)]
    simp
theorem wrow_get {ws : List Wd} {k : Nat} {t : Wd} (h : ws[k]? = some t) : (wrow ws)[k * 3]? = some (.int .i64 t.org) ∧ (wrow ws)[k * 3 + 1]? = some (.int .i64 t.seq) ∧ (wrow ws)[k * 3 + 2]? = some (.string t.body) := by
  have hk := (List.getElem?_eq_some_iff.1 h).1
  have hd : ws = ws.take k ++ (t :: ws.drop (k + 1)) := by
    rw [← (List.getElem?_eq_some_iff.1 h).2]
    conv => lhs; rw [← List.take_append_drop k ws, List.drop_eq_getElem_cons hk]
  have hl : (wrow (ws.take k)).length = k * 3 := by rw [wrow_length, List.length_take]; omega
  have he : wrow ws = wrow (ws.take k) ++ (.int .i64 t.org :: .int .i64 t.seq :: .string t.body :: wrow (ws.drop (k + 1))) := by
    conv => lhs; rw [hd, wrow_append]
    rfl
  rw [he]
  refine ⟨?_, ?_, ?_⟩
  · rw [List.getElem?_append_right (by omega), hl, Nat.sub_self]
    rfl
  · rw [List.getElem?_append_right (by omega), hl, Nat.add_sub_cancel_left]
    rfl
  · rw [List.getElem?_append_right (by omega), hl, Nat.add_sub_cancel_left]
    rfl
theorem Wrd.get {w : World} {base : Nat} {ad : Option Addr} {len cap : Nat} {ws : List Wd} (h : Wrd w base (.slice ad len cap) ws) {k : Nat} {t : Wd} (hk : ws[k]? = some t) : ∃ g, ad = some ⟨g, 0, none⟩ ∧ base ≤ g ∧ w.cell? ⟨g, k * 3, none⟩ = some (.int .i64 t.org) ∧ w.cell? ⟨g, k * 3 + 1, none⟩ = some (.int .i64 t.seq) ∧ w.cell? ⟨g, k * 3 + 2, none⟩ = some (.string t.body) := by
  have hkl := (List.getElem?_eq_some_iff.1 hk).1
  obtain ⟨h0, h1, h2⟩ := wrow_get hk
  have ho := h.own
  rcases ho.2 with ⟨_, h0⟩ | ⟨g, cap', cur, he, hg, hh, _⟩
  · omega
  · cases he
    refine ⟨g, rfl, hg, ?_, ?_, ?_⟩
    · rw [World.ownsRow.cellAt ho (k * 3) (by omega)]
      exact h0
    · rw [World.ownsRow.cellAt ho (k * 3 + 1) (by omega)]
      exact h1
    · rw [World.ownsRow.cellAt ho (k * 3 + 2) (by omega)]
      exact h2
set_option maxRecDepth 100000 in
set_option maxHeartbeats 1000000 in
theorem counts_any (rb n : Nat) (ad : Option Addr) (cap base : Nat) (ws : List Wd) (w : World) (hn : n ≤ 8) (hl : ws.length ≤ 1000000) (hor : ∀ x ∈ ws, ∃ o : Nat, x.org = o ∧ o < n) (c0 : w.cell? ⟨rb, 0, none⟩ = some (.int .i64 (n : Int))) (h : Wrd w base (.slice ad ws.length cap) ws) :
    Calls Tryz.prog 35 #[.pointer (some ⟨rb, 0, none⟩), .slice ad ws.length cap] w fun e w' => (∃ g, e = .returned (.slice (some ⟨g, 0, none⟩) n n) ∧ w.heap.size ≤ g ∧ RowI w' g (cnts n ws)) ∧ Below w.heap.size w w' := by
  have HH : Hid _ := h
  have HOR : Hid _ := hor
  obtain ⟨j0, hj, hy0, hy1, hy2⟩ := info_parts Tryz.infoInt
  clear h hor
  go_enter Tryz.func35, Tryz.ntmps35
  go_wp2_with (at_make; refine wpList_make_full _ rfl (.tmp 11) (.tmp 11) 34 rfl w.heap.size 3 j0 (.int .i64 0) 1 Tryz.underlying34 hj hy0 hy1 .i64 .i64 _ _ n rfl rfl ?m1 ?m2 ?m3 ?m4 ?m5 ?_)
  case m1 => rfl
  case m2 => rfl
  case m3 => rw [hy2]; omega
  case m4 => unfold maxLen; omega
  case m5 => exact Nat.le_refl _
  intro w1 hown1 hgrow1
  rw [made_ints] at hown1
  have HR1 : Hid (RowI w1 w.heap.size (cnts n (ws.take 0))) := by
    show RowI _ _ _
    rw [List.take_zero, cnts_nil]
    simpa using row_of_owns hown1
  have HB1 : Hid (Below w.heap.size w w1) := (Below.refl _ _).grown hgrow1 (Nat.le_refl _) (fun k hk => by cases hk)
  have hrz : rb < w.heap.size := lt_of_cell c0
  clear hown1 hgrow1
  go_wp2_with fail
  go_loopw [6] (fun c wr => ∃ k : Nat, k ≤ ws.length ∧ c = .int .i64 k ∧ RowI wr w.heap.size (cnts n (ws.take k)) ∧ Below w.heap.size w wr) (fun c _ => ws.length - (intOf c).toNat)
  case atStart => exact ⟨0, Nat.zero_le _, rfl, HR1.out, HB1.out⟩
  case round =>
    obtain ⟨k, hkn, rfl, hr, hb⟩ := hrel
    have HR : Hid _ := hr
    have HB : Hid _ := hb
    clear hr hb
    by_cases hlt : k < ws.length
    · have hki : (k : Int) < (ws.length : Int) := by omega
      obtain ⟨t, ht⟩ : ∃ t, ws[k]? = some t := ⟨ws[k], List.getElem?_eq_getElem _⟩
      obtain ⟨g, rfl, _, t0, _, _⟩ := HH.out.get ht
      have t0' := (HB.out.cell (p := ⟨g, k * 3, none⟩) (lt_of_cell t0)).trans t0
      have d0 := (HB.out.cell (p := ⟨rb, 0, none⟩) hrz).trans c0
      have HTk : Hid (ws.take (k + 1) = ws.take k ++ [t]) := by
        show _ = _
        rw [List.take_add_one, ht]
        rfl
      obtain ⟨org, seq, body⟩ := t
      simp only at t0'
      clear t0
      · obtain ⟨o, ho, hon⟩ := HOR.out _ (List.mem_of_getElem? ht)
        simp only at ho
        subst ho
        have hoi : (o : Int) < (n : Int) := by omega
        have hc := RowI.cell HR.out (j := o) (by rw [cnts_length]; exact hon)
        have hf := RowI.free HR.out o
        have hget : (cnts n (ws.take k)).getD o 0 = (cntW (ws.take k) o : Int) := cnts_get hon
        have hbd : cntW (ws.take k) o ≤ ws.length := Nat.le_trans List.countP_le_length (by rw [List.length_take]; omega)
        have HS : Hid (RowI (wr.setCell ⟨w.heap.size, o, none⟩ (.int .i64 ((cntW (ws.take k) o : Int) + 1))) w.heap.size (cnts n (ws.take (k + 1)))) := by
          have h1 := RowI.set HR.out o ((cntW (ws.take k) o : Int) + 1)
          show RowI _ _ _
          rw [HTk.out, cnts_more rfl, hget]
          exact h1
        rw [hget] at hc
        have hwr : IntKind.i64.wrap ((cntW (ws.take k) o : Int) + 1) = (cntW (ws.take k) o : Int) + 1 := by rw [IntKind.wrap_i64]; omega
        generalize cntW (ws.take k) o = y at *
        have hon2 : ¬ n ≤ o := by omega
        clear ht hget
        go_wp2_with fail
        go_quiet (fail)
        go_wp2_with fail
        go_region
        go_wp2_with fail
        go_roundw
        case rel => exact ⟨k + 1, by omega, by go_num, HS.out, by first | exact (HB.out.setCell (p := ⟨w.heap.size, o, none⟩) (Nat.le_refl _) _).drew | exact ((below_drewN HB.out _).drew.setCell (p := ⟨w.heap.size, o, none⟩) (Nat.le_refl _) _) | exact ((below_drewN HB.out _).setCell (p := ⟨w.heap.size, o, none⟩) (Nat.le_refl _) _) | exact below_drewN (HB.out.setCell (p := ⟨w.heap.size, o, none⟩) (Nat.le_refl _) _) _ | exact (below_drewN (HB.out.setCell (p := ⟨w.heap.size, o, none⟩) (Nat.le_refl _) _) _).drew⟩
        case measure => simp [intOf]; omega
    · have hkn' : k = ws.length := by omega
      subst hkn'
      rw [List.take_length] at HR
      go_wp2_with fail
      go_ret
      exact ⟨⟨_, rfl, Nat.le_refl _, HR.out⟩, HB.out⟩
end Go.Proofs.YtabecbjfamphbaaGreatDoor

/- hearsaykeep: a circle in memory. -/
namespace Go.Proofs.YtabecbjfamphbaaGreatDoor
open Go.RowKit Go.Stop Go.Extern

/-- A word that was said, and where its past lies. -/
structure Sd where
  org : Int
  seq : Int
  body : ByteArray
  pb : Nat
  past : List Int
/-- What was seen of a node. -/
structure Sn where
  ad : Option Addr
  cap : Nat
  ws : List Wd
def Sd.cells (n : Nat) (s : Sd) : List Value := [.int .i64 s.org, .int .i64 s.seq, .string s.body, .slice (some ⟨s.pb, 0, none⟩) n n]
def srow (n : Nat) (sd : List Sd) : List Value := sd.flatMap (Sd.cells n)
def nrow (sn : List Sn) : List Value := sn.map (fun s => .slice s.ad s.ws.length s.cap)
structure CLay where
  fb : Nat
  Fx : Nat → Prop
  sa : Option Addr
  scap : Nat
  na : Option Addr
  ncap : Nat
structure Circ (w : World) (rb : Nat) (g : Gr) (x : MNet) (sd : List Sd) (sn : List Sn) (C : CLay) : Prop where
  c0 : w.cell? ⟨rb, 0, none⟩ = some (.int .i64 (g.n : Int))
  c1 : w.cell? ⟨rb, 1, none⟩ = some (.int .i64 g.W)
  c2 : w.cell? ⟨rb, 2, none⟩ = some (.int .i64 g.B)
  c3 : w.cell? ⟨rb, 3, none⟩ = some (.int .i64 g.L)
  c4 : w.cell? ⟨rb, 4, none⟩ = some (.pointer (some ⟨C.fb, 0, none⟩))
  c5 : w.cell? ⟨rb, 5, none⟩ = some (.slice C.sa sd.length C.scap)
  c6 : w.cell? ⟨rb, 6, none⟩ = some (.slice C.na sn.length C.ncap)
  ty : ∃ cur, w.heap[rb]? = some (.cells cur 40 (0, 0))
  net : NetAt w C.fb g x C.Fx
  sown : w.ownsRow 0 93 4 (.slice C.sa sd.length C.scap) sd.length (srow g.n sd)
  past : ∀ s ∈ sd, RowI w s.pb s.past ∧ s.past.length = g.n
  nown : w.ownsRow 0 62 1 (.slice C.na sn.length C.ncap) sn.length (nrow sn)
  seen : ∀ s ∈ sn, Wrd w 0 (.slice s.ad s.ws.length s.cap) s.ws
  nlen : sn.length = g.n
  sep : ∀ k, C.Fx k → k ≠ rb ∧ ¬ onB C.sa k ∧ ¬ onB C.na k ∧ (∀ s ∈ sd, k ≠ s.pb) ∧ ∀ s ∈ sn, ¬ onB s.ad k
def CLay.foot (C : CLay) (rb : Nat) (sd : List Sd) (sn : List Sn) (k : Nat) : Prop := k = rb ∨ C.Fx k ∨ onB C.sa k ∨ onB C.na k ∨ (∃ s ∈ sd, k = s.pb) ∨ ∃ s ∈ sn, onB s.ad k
theorem row_alike2 {w w' : World} {t : TypeId} {c : Nat} {ad : Option Addr} {len cap n : Nat} {xs : List Value} {E : Nat → Prop} (h : w.ownsRow 0 t c (.slice ad len cap) n xs) (ha : Alike w w' E) (hE : ∀ k, onB ad k → ¬ E k) : w'.ownsRow 0 t c (.slice ad len cap) n xs := by
  refine ⟨h.1, ?_⟩
  rcases h.2 with h' | ⟨g', cap', cur, he, hg, hh, hr⟩
  · exact Or.inl h'
  · refine Or.inr ⟨g', cap', cur, he, hg, (ha.block g' (lt_of_some hh) ?_).trans hh, hr⟩
    cases he
    exact hE g' ⟨0, rfl⟩
theorem row_block {w : World} {t : TypeId} {c : Nat} {ad : Option Addr} {len cap n : Nat} {xs : List Value} (h : w.ownsRow 0 t c (.slice ad len cap) n xs) {k : Nat} (hk : onB ad k) : ∃ cur, w.heap[k]? = some (.cells cur t (0, 0)) := by
  obtain ⟨off, e⟩ := hk
  rcases h.2 with ⟨he, _⟩ | ⟨g', cap', cur, he, _, hh, _⟩
  · rw [e] at he; cases he
  · cases he
    cases e
    exact ⟨cur, hh⟩
theorem own_onB {w : World} {b : Nat} {t : TypeId} {c : Nat} {ad : Option Addr} {len cap n : Nat} {xs : List Value} (h : w.ownsRow b t c (.slice ad len cap) n xs) {j : Nat} (hj : (Value.slice ad len cap).ownBlock = some j) : onB ad j := by
  rcases h.2 with ⟨he, _⟩ | ⟨g', cap', cur', he, _⟩
  · rw [he] at hj
    cases hj
  · simp only [Value.slice.injEq] at he
    rw [he.1] at hj ⊢
    cases hj
    exact ⟨0, rfl⟩
theorem below_of_alike {w w' : World} {E : Nat → Prop} {z : Nat} (ha : Alike w w' E) (hE : ∀ k, E k → z ≤ k) (hz : z ≤ w.heap.size) : Below z w w' :=
  ⟨ha.same.1, ha.same.2.1, ha.same.2.2, ha.size, fun k hk => ha.block k (by omega) (fun hc => by have := hE k hc; omega)⟩
section
variable {w y : World} {rb : Nat} {g : Gr} {x x' : MNet} {sd : List Sd} {sn : List Sn} {C : CLay} {E : Nat → Prop}
theorem Circ.lt (h : Circ w rb g x sd sn C) {k : Nat} (hk : C.foot rb sd sn k) : k < w.heap.size := by
  rcases hk with rfl | hk | hk | hk | ⟨s, hs, rfl⟩ | ⟨s, hs, hk⟩
  · exact lt_of_cell h.c0
  · exact h.net.lt hk
  · obtain ⟨_, e⟩ := row_block h.sown hk; exact lt_of_some e
  · obtain ⟨_, e⟩ := row_block h.nown hk; exact lt_of_some e
  · exact (h.past s hs).1.lt
  · obtain ⟨_, e⟩ := row_block (h.seen s hs).own hk; exact lt_of_some e
/-- All but the net, in a memory that is alike. -/
theorem Circ.rest (h : Circ w rb g x sd sn C) (ha : Alike w y E) (hE : ∀ k, (k = rb ∨ onB C.sa k ∨ onB C.na k ∨ (∃ s ∈ sd, k = s.pb) ∨ ∃ s ∈ sn, onB s.ad k) → ¬ E k) {fb : Nat} (he : fb = C.fb) {F' : Nat → Prop} (hn : NetAt y fb g x' F') (hF : ∀ k, F' k → k ≠ rb ∧ ¬ onB C.sa k ∧ ¬ onB C.na k ∧ (∀ s ∈ sd, k ≠ s.pb) ∧ ∀ s ∈ sn, ¬ onB s.ad k) : Circ y rb g x' sd sn { C with Fx := F' } := by
  subst he
  have hr := hE rb (Or.inl rfl)
  obtain ⟨cur, ht⟩ := h.ty
  exact ⟨ha.cell h.c0 hr, ha.cell h.c1 hr, ha.cell h.c2 hr, ha.cell h.c3 hr, ha.cell h.c4 hr, ha.cell h.c5 hr, ha.cell h.c6 hr, ⟨cur, (ha.block rb (lt_of_some ht) hr).trans ht⟩, hn, row_alike2 h.sown ha (fun k hk => hE k (Or.inr (Or.inl hk))),
    fun s hs => ⟨(ha.block _ (h.past s hs).1.lt (hE _ (Or.inr (Or.inr (Or.inr (Or.inl ⟨s, hs, rfl⟩)))))).trans (h.past s hs).1, (h.past s hs).2⟩, row_alike2 h.nown ha (fun k hk => hE k (Or.inr (Or.inr (Or.inl hk)))),
    fun s hs => ⟨row_alike2 (h.seen s hs).own ha (fun k hk => hE k (Or.inr (Or.inr (Or.inr (Or.inr ⟨s, hs, hk⟩)))))⟩, h.nlen, hF⟩
theorem Circ.low (h : Circ w rb g x sd sn C) (hb : Below w.heap.size w y) : Circ y rb g x sd sn C := h.rest (E := fun _ => False) (Alike.of_below hb _) (fun _ _ h => h) rfl (h.net.low hb) h.sep
/-- The net did something. -/
theorem Circ.did (h : Circ w rb g x sd sn C) (hd : NDid w y C.fb g C.Fx x') : ∃ C', Circ y rb g x' sd sn C' ∧ ∀ k, C'.foot rb sd sn k → C.foot rb sd sn k ∨ w.heap.size ≤ k := by
  obtain ⟨⟨F', hn, hF⟩, ha⟩ := hd
  refine ⟨_, h.rest ha (fun k hk hf => ?_) rfl hn (fun k hk => ?_), ?_⟩
  · have := h.sep k hf
    rcases hk with e | e | e | ⟨s, hs, e⟩ | ⟨s, hs, e⟩
    · exact this.1 e
    · exact this.2.1 e
    · exact this.2.2.1 e
    · exact this.2.2.2.1 s hs e
    · exact this.2.2.2.2 s hs e
  · rcases hF k hk with h1 | h1
    · exact h.sep k h1
    · have hl : ∀ {j}, C.foot rb sd sn j → j ≠ k := fun hj e => by have := h.lt hj; omega
      exact ⟨fun e => hl (Or.inl rfl) e.symm, fun e => hl (Or.inr (Or.inr (Or.inl e))) rfl, fun e => hl (Or.inr (Or.inr (Or.inr (Or.inl e)))) rfl, fun s hs e => hl (Or.inr (Or.inr (Or.inr (Or.inr (Or.inl ⟨s, hs, rfl⟩))))) e.symm, fun s hs e => hl (Or.inr (Or.inr (Or.inr (Or.inr (Or.inr ⟨s, hs, e⟩))))) rfl⟩
  · rintro k (e | hk | hk)
    · exact Or.inl (Or.inl e)
    · rcases hF k hk with h1 | h1
      · exact Or.inl (Or.inr (Or.inl h1))
      · exact Or.inr h1
    · exact Or.inl (Or.inr (Or.inr hk))
end
theorem srow_append (n : Nat) (a b : List Sd) : srow n (a ++ b) = srow n a ++ srow n b := by simp [srow]
theorem Circ.offs {w : World} {rb : Nat} {g : Gr} {x : MNet} {sd : List Sd} {sn : List Sn} {C : CLay} (h : Circ w rb g x sd sn C) : (∀ k, onB C.sa k → k ≠ rb ∧ ¬ onB C.na k ∧ (∀ s ∈ sd, k ≠ s.pb) ∧ ∀ s ∈ sn, ¬ onB s.ad k) ∧ (∀ k, onB C.na k → k ≠ rb ∧ (∀ s ∈ sd, k ≠ s.pb) ∧ ∀ s ∈ sn, ¬ onB s.ad k) ∧ (∀ s ∈ sd, s.pb ≠ rb) ∧ ∀ s ∈ sn, ¬ onB s.ad rb := by
  obtain ⟨cur, ht⟩ := h.ty
  refine ⟨fun k hk => ?_, fun k hk => ?_, fun s hs => ty_ne (h.past s hs).1 ht (by decide), fun s hs hc => ?_⟩
  · obtain ⟨c1, e1⟩ := row_block h.sown hk
    refine ⟨ty_ne e1 ht (by decide), fun hc => ?_, fun s hs => ty_ne e1 (h.past s hs).1 (by decide), fun s hs hc => ?_⟩
    · obtain ⟨c2, e2⟩ := row_block h.nown hc
      exact ty_ne e1 e2 (by decide) rfl
    · obtain ⟨c2, e2⟩ := row_block (h.seen s hs).own hc
      exact ty_ne e1 e2 (by decide) rfl
  · obtain ⟨c1, e1⟩ := row_block h.nown hk
    refine ⟨ty_ne e1 ht (by decide), fun s hs => ty_ne e1 (h.past s hs).1 (by decide), fun s hs hc => ?_⟩
    obtain ⟨c2, e2⟩ := row_block (h.seen s hs).own hc
    exact ty_ne e1 e2 (by decide) rfl
  · obtain ⟨c2, e2⟩ := row_block (h.seen s hs).own hc
    exact ty_ne e2 ht (by decide) rfl
/-- A word more was said. -/
theorem Circ.more {w w6 : World} {rb : Nat} {g : Gr} {x : MNet} {sd : List Sd} {sn : List Sn} {C : CLay} (h : Circ w rb g x sd sn C) {sa' : Option Addr} {scap' : Nat} {s : Sd} (ha : Alike w w6 (onB C.sa)) (hown : w6.ownsRow 0 93 4 (.slice sa' (sd.length + 1) scap') (sd.length + 1) (srow g.n sd ++ Sd.cells g.n s)) (hnew : ∀ k, onB sa' k → onB C.sa k ∨ w.heap.size ≤ k) (hp : RowI w s.pb s.past) (hpl : s.past.length = g.n) (hpF : ¬ C.Fx s.pb) :
    Circ (w6.setCell ⟨rb, 5, none⟩ (.slice sa' (sd.length + 1) scap')) rb g x (sd ++ [s]) sn { C with sa := sa', scap := scap' } := by
  obtain ⟨o1, o2, o3, o4⟩ := h.offs
  obtain ⟨cur, ht⟩ := h.ty
  have hrb : ¬ onB C.sa rb := fun hc => (o1 rb hc).1 rfl
  have hset := Alike.setCell w6 ⟨rb, 5, none⟩ (.slice sa' (sd.length + 1) scap')
  have hty : w6.heap[rb]? = some (.cells cur 40 (0, 0)) := (ha.block rb (lt_of_some ht) hrb).trans ht
  have hc : ∀ i v, i ≠ 5 → w.cell? ⟨rb, i, none⟩ = some v → (w6.setCell ⟨rb, 5, none⟩ (.slice sa' (sd.length + 1) scap')).cell? ⟨rb, i, none⟩ = some v := fun i v hi hv => (World.cell?_setCell_other _ _ _ _ (by intro h; simp only [Addr.mk.injEq] at h; omega)).trans (ha.cell hv hrb)
  have hall : Alike w (w6.setCell ⟨rb, 5, none⟩ (.slice sa' (sd.length + 1) scap')) (fun k => onB C.sa k ∨ k = rb) := ((Alike.refl w _).trans ha (fun k _ h => Or.inl h)).trans hset (fun k _ h => Or.inr h)
  have hpsa : ¬ onB C.sa s.pb := fun hc => by
    obtain ⟨c1, e1⟩ := row_block h.sown hc
    exact ty_ne e1 hp (by decide) rfl
  have hprb : s.pb ≠ rb := ty_ne hp ht (by decide)
  have hmem : ∀ t ∈ sd ++ [s], t ∈ sd ∨ t = s := fun t ht => by
    rcases List.mem_append.1 ht with h' | h'
    · exact Or.inl h'
    · exact Or.inr (List.mem_singleton.1 h')
  refine ⟨hc _ _ (by decide) h.c0, hc _ _ (by decide) h.c1, hc _ _ (by decide) h.c2, hc _ _ (by decide) h.c3, hc _ _ (by decide) h.c4, ?_, hc _ _ (by decide) h.c6, ⟨_, heap_setCell_same w6 rb 5 cur _ _ hty⟩, h.net.alike hall (fun k hk hor => ?_), ?_, fun t ht' => ?_, row_alike2 h.nown hall (fun k hk hor => ?_), fun t ht' => ⟨row_alike2 (h.seen t ht').own hall (fun k hk hor => ?_)⟩, h.nlen, fun k hk => ?_⟩
  · rw [List.length_append, List.length_singleton]
    exact World.cell?_setCell_same _ _ _ (ha.cell h.c5 hrb)
  · have := h.sep k hk
    exact hor.elim this.2.1 this.1
  · rw [List.length_append, List.length_singleton, srow_append]
    show World.ownsRow _ 0 _ 4 _ _ (srow g.n sd ++ (Sd.cells g.n s ++ []))
    rw [List.append_nil]
    refine row_alike2 hown hset (fun k hk e => ?_)
    obtain ⟨c1, e1⟩ := row_block hown hk
    exact ty_ne e1 hty (by decide) e
  · rcases hmem t ht' with h1 | rfl
    · refine ⟨(hall.block _ (h.past t h1).1.lt (fun hor => ?_)).trans (h.past t h1).1, (h.past t h1).2⟩
      rcases hor with h2 | h2
      · exact (o1 _ h2).2.2.1 t h1 rfl
      · exact o3 t h1 h2
    · exact ⟨(hall.block _ hp.lt (fun hor => hor.elim hpsa hprb)).trans hp, hpl⟩
  · rcases hor with h1 | h1
    · exact (o1 k h1).2.1 hk
    · exact (o2 k hk).1 h1
  · rcases hor with h1 | h1
    · exact (o1 k h1).2.2.2 t ht' hk
    · rw [h1] at hk
      exact o4 t ht' hk
  · have h1 := h.sep k hk
    refine ⟨h1.1, fun hc' => ?_, h1.2.2.1, fun t ht' => ?_, h1.2.2.2.2⟩
    · rcases hnew k hc' with h2 | h2
      · exact h1.2.1 h2
      · have := h.net.lt hk
        omega
    · rcases hmem t ht' with h2 | rfl
      · exact h1.2.2.2.1 t h2
      · intro e
        rw [e] at hk
        exact hpF hk
/-- A circle, all of it in blocks from z on. -/
structure CircZ (z : Nat) (w : World) (rb : Nat) (g : Gr) (x : MNet) (sd : List Sd) (sn : List Sn) : Prop where
  how : ∃ C, Circ w rb g x sd sn C ∧ ∀ k, C.foot rb sd sn k → z ≤ k
theorem CircZ.low {z : Nat} {w y : World} {rb : Nat} {g : Gr} {x : MNet} {sd : List Sd} {sn : List Sn} (h : CircZ z w rb g x sd sn) (hb : Below w.heap.size w y) : CircZ z y rb g x sd sn := by
  obtain ⟨C, h1, h2⟩ := h.how
  exact ⟨C, h1.low hb, h2⟩
theorem CircZ.le {z : Nat} {w : World} {rb : Nat} {g : Gr} {x : MNet} {sd : List Sd} {sn : List Sn} (h : CircZ z w rb g x sd sn) : z ≤ w.heap.size := by
  obtain ⟨C, h1, h2⟩ := h.how
  have := h1.lt (Or.inl rfl)
  have := h2 rb (Or.inl rfl)
  omega
theorem CircZ.did {z : Nat} {w y : World} {rb : Nat} {g : Gr} {x x' : MNet} {sd : List Sd} {sn : List Sn} {C : CLay} (h : Circ w rb g x sd sn C) (hz : ∀ k, C.foot rb sd sn k → z ≤ k) (hd : NDid w y C.fb g C.Fx x') : CircZ z y rb g x' sd sn ∧ Below z w y := by
  obtain ⟨C', h1, h2⟩ := h.did hd
  have hzw : z ≤ w.heap.size := by
    have := h.lt (Or.inl rfl)
    have := hz rb (Or.inl rfl)
    omega
  refine ⟨⟨C', h1, fun k hk => ?_⟩, below_of_alike hd.rest (fun k hk => hz k (Or.inr (Or.inl hk))) hzw⟩
  rcases h2 k hk with h3 | h3
  · exact hz k h3
  · omega

set_option maxRecDepth 100000 in
set_option maxHeartbeats 1000000 in
theorem heard_any (A : Nat → Addr) (base z rb : Nat) (g : Gr) (x : MNet) (sd : List Sd) (sn : List Sn) (p : Nat) (hg : g.Ok) (hx : x.Ok g) (hp : p < g.n) (w : World) (hw : Sl w A base) (h : CircZ z w rb g x sd sn) :
    Calls Tryz.prog 26 #[.pointer (some ⟨rb, 0, none⟩), .int .i64 p] w fun e w' => (∃ c, e = .returned (.tuple #[.slice (some ⟨c, 0, none⟩) g.n g.n, .bool true]) ∧ w.heap.size ≤ c ∧ RowI w' c (cnts g.n (x.nd p).hs)) ∧ Below w.heap.size w w' := by
  obtain ⟨C, hC, _⟩ := h.how
  have hin : isNode g.n p = true := decide_eq_true ⟨by omega, by omega⟩
  have hRe : x.heardR g p = ⟨(x.nd p).hs, 0⟩ := by
    unfold MNet.heardR
    rw [if_pos hin]
    rfl
  have HH : Hid _ := netHeard A base C.fb g x C.Fx p hg hx w hw hC.net
  have c4 := hC.c4
  have HC0 : Hid (w.cell? ⟨rb, 0, none⟩ = some (.int .i64 (g.n : Int))) := hC.c0
  have HOr : Hid _ := (hx.nd p hp).clk.hd
  have HLn : Hid _ := (hx.nd p hp).clk.short hg hp
  have hn8 := hg.n.2
  rw [hRe] at HH
  generalize (x.nd p).hs = ws at *
  clear h hC hx hw hin hRe
  go_enter Tryz.func26, Tryz.ntmps26
  go_wp2_with fail
  refine (show Calls _ _ _ _ _ from HH.out).mono ?_
  rintro e w1 ⟨⟨v, rfl, hv⟩, hb1⟩
  have HV : Hid _ := hv
  have HB1 : Hid _ := hb1
  obtain ⟨av, cv, hsh⟩ := rowShaped hv.own
  subst hsh
  have hc0 := (hb1.cell (p := ⟨rb, 0, none⟩) (lt_of_cell HC0.out)).trans HC0.out
  clear hv hb1 HH
  go_wp2_with fail
  refine (counts_any rb g.n av cv w.heap.size ws w1 hn8 (by have := HLn.out; omega) HOr.out hc0 HV.out).mono ?_
  rintro e w2 ⟨⟨c, rfl, hc, hr⟩, hb2⟩
  have HR : Hid _ := hr
  have HB2 : Hid _ := bthen HB1.out hb2
  have hz : w.heap.size ≤ w1.heap.size := HB1.out.size
  clear hr hb2
  go_wp2_with fail
  go_ret2
  exact ⟨⟨_, rfl, by omega, HR.out⟩, HB2.out⟩
end Go.Proofs.YtabecbjfamphbaaGreatDoor

/- hearsaykeep: word. -/
namespace Go.Proofs.YtabecbjfamphbaaGreatDoor
open Go.RowKit Go.Stop Go.Extern

theorem srow_length (n : Nat) (sd : List Sd) : (srow n sd).length = sd.length * 4 := by
  induction sd with
  | nil => rfl
  | cons s sd ih =>
    show (Sd.cells n s ++ srow n sd).length = _
    rw [List.length_append, ih]
    simp [Sd.cells]
    omega
theorem srow_get {n : Nat} {sd : List Sd} {k : Nat} {t : Sd} (h : sd[k]? = some t) : (srow n sd)[k * 4]? = some (.int .i64 t.org) ∧ (srow n sd)[k * 4 + 1]? = some (.int .i64 t.seq) ∧ (srow n sd)[k * 4 + 2]? = some (.string t.body) ∧ (srow n sd)[k * 4 + 3]? = some (.slice (some ⟨t.pb, 0, none⟩) n n) := by
  have hk := (List.getElem?_eq_some_iff.1 h).1
  have hd : sd = sd.take k ++ (t :: sd.drop (k + 1)) := by
    rw [← (List.getElem?_eq_some_iff.1 h).2]
    conv => lhs; rw [← List.take_append_drop k sd, List.drop_eq_getElem_cons hk]
  have hl : (srow n (sd.take k)).length = k * 4 := by rw [srow_length, List.length_take]; omega
  have he : srow n sd = srow n (sd.take k) ++ (.int .i64 t.org :: .int .i64 t.seq :: .string t.body :: .slice (some ⟨t.pb, 0, none⟩) n n :: srow n (sd.drop (k + 1))) := by
    conv => lhs; rw [hd, srow_append]
    rfl
  rw [he]
  refine ⟨?_, ?_, ?_, ?_⟩
  · rw [List.getElem?_append_right (by omega), hl, Nat.sub_self]
    rfl
  · rw [List.getElem?_append_right (by omega), hl, Nat.add_sub_cancel_left]
    rfl
  · rw [List.getElem?_append_right (by omega), hl, Nat.add_sub_cancel_left]
    rfl
  · rw [List.getElem?_append_right (by omega), hl, Nat.add_sub_cancel_left]
    rfl
theorem Circ.sget {w : World} {rb : Nat} {g : Gr} {x : MNet} {sd : List Sd} {sn : List Sn} {C : CLay} (h : Circ w rb g x sd sn C) {k : Nat} {t : Sd} (hk : sd[k]? = some t) : ∃ b, C.sa = some ⟨b, 0, none⟩ ∧ w.cell? ⟨b, k * 4, none⟩ = some (.int .i64 t.org) ∧ w.cell? ⟨b, k * 4 + 1, none⟩ = some (.int .i64 t.seq) ∧ w.cell? ⟨b, k * 4 + 2, none⟩ = some (.string t.body) ∧ w.cell? ⟨b, k * 4 + 3, none⟩ = some (.slice (some ⟨t.pb, 0, none⟩) g.n g.n) := by
  have hkl := (List.getElem?_eq_some_iff.1 hk).1
  obtain ⟨h0, h1, h2, h3⟩ := srow_get (n := g.n) hk
  have ho := h.sown
  rcases ho.2 with ⟨_, h0⟩ | ⟨b, cap', cur, he, hg, hh, _⟩
  · omega
  · simp only [Value.slice.injEq] at he
    rw [he.1] at ho
    refine ⟨b, he.1, ?_, ?_, ?_, ?_⟩
    · rw [World.ownsRow.cellAt ho (k * 4) (by omega)]; exact h0
    · rw [World.ownsRow.cellAt ho (k * 4 + 1) (by omega)]; exact h1
    · rw [World.ownsRow.cellAt ho (k * 4 + 2) (by omega)]; exact h2
    · rw [World.ownsRow.cellAt ho (k * 4 + 3) (by omega)]; exact h3
/-- The place of a word among what was said. -/
def WordAt (sd : List Sd) (o q r : Int) : Prop := (∃ (i : Nat) (t : Sd), r = i ∧ sd[i]? = some t ∧ t.org = o ∧ t.seq = q) ∨ (r = -1 ∧ ∀ t ∈ sd, ¬ (t.org = o ∧ t.seq = q))
set_option maxRecDepth 100000 in
set_option maxHeartbeats 1000000 in
theorem word_any (rb : Nat) (g : Gr) (x : MNet) (sd : List Sd) (sn : List Sn) (C : CLay) (o q : Int) (hln : sd.length ≤ 10000000) (w : World) (h : Circ w rb g x sd sn C) :
    Calls Tryz.prog 48 #[.pointer (some ⟨rb, 0, none⟩), .int .i64 o, .int .i64 q] w fun e w' => (∃ r, e = .returned (.int .i64 r) ∧ WordAt sd o q r) ∧ Below w.heap.size w w' := by
  have HH : Hid _ := h
  clear h
  go_enter Tryz.func48, Tryz.ntmps48
  go_wp2_with fail
  go_loopw [7] (fun c wr => ∃ k : Nat, k ≤ sd.length ∧ c = .int .i64 k ∧ (∀ i t, i < k → sd[i]? = some t → ¬ (t.org = o ∧ t.seq = q)) ∧ Below w.heap.size w wr) (fun c _ => sd.length - (intOf c).toNat)
  case atStart => exact ⟨0, Nat.zero_le _, rfl, fun i t hi => absurd hi (Nat.not_lt_zero _), Below.refl _ _⟩
  case round =>
    obtain ⟨k, hkn, rfl, hno, hb⟩ := hrel
    have HNo : Hid _ := hno
    have HB : Hid _ := hb
    have HCr : Hid _ := HH.out.low hb
    have d5 := HCr.out.c5
    clear hno hb
    by_cases hlt : k < sd.length
    · have hki : (k : Int) < (sd.length : Int) := by omega
      obtain ⟨t, ht⟩ : ∃ t, sd[k]? = some t := ⟨sd[k], List.getElem?_eq_getElem _⟩
      obtain ⟨b, hsa, t0, t1, _, _⟩ := HCr.out.sget ht
      rw [hsa] at d5
      have HT : Hid _ := ht
      obtain ⟨to, tq, tb, tp, tps⟩ := t
      simp only at t0 t1
      clear ht hsa
      by_cases h1 : to = o
      · have b1 : (to == o) = true := by simp [h1]
        by_cases h2 : tq = q
        · have b2 : (tq == q) = true := by simp [h2]
          have HW : Hid (WordAt sd o q (k : Int)) := Or.inl ⟨k, _, rfl, HT.out, h1, h2⟩
          clear h1 h2
          go_wp2_with fail
          go_ret
          exact ⟨⟨_, rfl, HW.out⟩, HB.out⟩
        · have b2 : (tq == q) = false := by simp [h2]
          have HN : Hid (∀ i t, i < k + 1 → sd[i]? = some t → ¬ (t.org = o ∧ t.seq = q)) := fun i t hi hti hc => by
            rcases Nat.lt_or_ge i k with h' | h'
            · exact HNo.out i t h' hti hc
            · obtain rfl : i = k := by omega
              rw [HT.out] at hti
              cases hti
              exact h2 hc.2
          clear h1 h2
          go_wp2_with fail
          go_roundw
          case rel => exact ⟨k + 1, by omega, by go_num, HN.out, HB.out⟩
          case measure => simp [intOf]; omega
      · have b1 : (to == o) = false := by simp [h1]
        have HN : Hid (∀ i t, i < k + 1 → sd[i]? = some t → ¬ (t.org = o ∧ t.seq = q)) := fun i t hi hti hc => by
          rcases Nat.lt_or_ge i k with h' | h'
          · exact HNo.out i t h' hti hc
          · obtain rfl : i = k := by omega
            rw [HT.out] at hti
            cases hti
            exact h1 hc.1
        clear h1
        go_wp2_with fail
        go_roundw
        case rel => exact ⟨k + 1, by omega, by go_num, HN.out, HB.out⟩
        case measure => simp [intOf]; omega
    · have hkn' : k = sd.length := by omega
      subst hkn'
      have HW : Hid (WordAt sd o q (-1)) := Or.inr ⟨rfl, fun t ht => by
        obtain ⟨i, hi⟩ := List.mem_iff_getElem?.1 ht
        exact HNo.out i t (List.getElem?_eq_some_iff.1 hi).1 hi⟩
      go_wp2_with fail
      go_ret
      exact ⟨⟨_, rfl, HW.out⟩, HB.out⟩
end Go.Proofs.YtabecbjfamphbaaGreatDoor
