/-
  The reference's Decode, where it reads a frame.
-/
import Derived.Test.YtabecbjfamphbaaDoorRefDec
import Derived.Test.YtabecbjfamphbaaDoorRefGood0
namespace Go.Proofs.YtabecbjfamphbaaDoor
open Go.RowKit Go.Stop Go.Extern

/-- The group, the answer's cells and the frame's box. -/
structure Tab (z g : Nat) (x : World) (N W B L : Int) (v0 v1 v2 v3 v4 v5 v6 : Value) : Prop where
  pen : Pen z x N W B L
  sev : Seven g x v0 v1 v2 v3 v4 v5 v6
  fr : ∀ i, x.frozen? ⟨g, i, none⟩ = false
  hz : z + 1 < g
theorem Tab.below {z g : Nat} {x y : World} {N W B L : Int} {v0 v1 v2 v3 v4 v5 v6 : Value} (h : Tab z g x N W B L v0 v1 v2 v3 v4 v5 v6) {c : Nat} (hb : Below c x y) (hc : g < c) : Tab z g y N W B L v0 v1 v2 v3 v4 v5 v6 := by
  obtain ⟨hp, hs, hf, hz⟩ := h
  exact ⟨hp.below hb (by omega), hs.below hb hc, fun i => (hb.frozen (p := ⟨g, i, none⟩) hc).trans (hf i), hz⟩
theorem Pen.other {z : Nat} {x : World} {N W B L : Int} (h : Pen z x N W B L) {a : Addr} (v : Value) (ha : z + 1 < a.block) : Pen z (x.setCell a v) N W B L := by
  obtain ⟨k0, k1, k2, k3, ⟨sr, sf, sz⟩, hz⟩ := h
  have e : ∀ (b i : Nat), b ≠ a.block → (x.setCell a v).cell? ⟨b, i, none⟩ = x.cell? ⟨b, i, none⟩ := fun b i hne => World.cell?_of_block (w := x) (heap_setCell_other x a b v hne)
  have h0 : z ≠ a.block := by omega
  refine ⟨(e _ _ h0).trans k0, (e _ _ h0).trans k1, (e _ _ h0).trans k2, (e _ _ h0).trans k3, ⟨fun i hi => ?_, fun i => (frozen_set _ _ _ _).trans (sf i), by simpa [World.setCell] using sz⟩, by simpa [World.setCell] using hz⟩
  obtain ⟨u, hu⟩ := sr i hi
  exact ⟨u, (e _ _ (by omega)).trans hu⟩
theorem Tab.set5 {z g : Nat} {x : World} {N W B L : Int} {v0 v1 v2 v3 v4 v5 v6 : Value} (h : Tab z g x N W B L v0 v1 v2 v3 v4 v5 v6) (v : Value) : Tab z g (x.setCell ⟨g, 5, none⟩ v) N W B L v0 v1 v2 v3 v4 v v6 := by
  obtain ⟨hp, ⟨c0, c1, c2, c3, c4, c5, c6, cz⟩, hf, hz⟩ := h
  refine ⟨hp.other _ hz, ?_, fun i => (frozen_set _ _ _ _).trans (hf i), hz⟩
  refine ⟨?_, ?_, ?_, ?_, ?_, ?_, ?_, by simpa [World.setCell] using cz⟩ <;> go_simp
theorem tab_alloc {z : Nat} {x : World} {N W B L : Int} (h : Pen z x N W B L) (v0 v1 v2 v3 v4 v5 v6 : Value) (t : TypeId) : Tab z x.heap.size (x.alloc (.cells #[v0, v1, v2, v3, v4, v5, v6] t)) N W B L v0 v1 v2 v3 v4 v5 v6 :=
  ⟨h.below ((Below.refl _ _).alloc (Nat.le_refl _) _) h.z, seven_alloc _ _ _ _ _ _ _ _ _, fun i => frozen_of_row _ _ i _ t (heap_alloc_new _ _), h.z⟩

set_option maxRecDepth 100000 in
set_option maxHeartbeats 2000000 in
theorem refDecode_state (n : Nat) (W B L : Int) (s : ByteArray) (w : World) (hG : okG n W B L = true) (hs : s.size ≤ maxLen) (hat : refAt n W B L s < 0) (hk : byt s 2 = 2) :
    Calls Tryd.prog 24 #[.agg #[.int .i64 (n : Int), .int .i64 W, .int .i64 B, .int .i64 L], .string s] w
      fun e w' => (∃ v, e = .returned (.tuple #[.agg #[.int .i64 2, .int .i64 (byt s 4), .int .i64 0, .int .i64 0, .int .i64 0, v, .string ⟨#[]⟩], .int .i64 0, .int .i64 0]) ∧ OwnI w' w.heap.size v (vecOf s 5 n)) ∧ Below w.heap.size w w' := by
  obtain ⟨h1, h2, h3, h4, -, -, -, -⟩ := okG_iff.1 hG
  have HC : Hid (∀ x, Calls Tryd.prog 17 #[.agg #[.int .i64 (n : Int), .int .i64 W, .int .i64 B, .int .i64 L]] x fun e w' => e = .returned (.int .i64 0) ∧ Below x.heap.size x w') := fun x => by
    have := refCheck_any n W B L x
    rw [hG] at this
    exact this
  have HO : Hid (∀ x, Calls Tryd.prog 42 #[.agg #[.int .i64 (n : Int), .int .i64 W, .int .i64 B, .int .i64 L], .string s] x fun e w' => e = .returned (.int .i64 (outR n s)) ∧ Below x.heap.size x w') := fun x => outer_any n W B L s x (by omega) (by omega) hs
  clear hG
  have co : outR n s < 0 := by
    unfold refAt at hat
    by_cases co : outR n s < 0
    · exact co
    · rw [if_neg co] at hat; omega
  have hsz : 9 + 2 * n ≤ s.size := by rcases outR_neg co with ⟨k, hl⟩ | ⟨k, hl⟩ <;> omega
  have HIn : Hid (∀ x, Calls Tryd.prog 43 #[.agg #[.int .i64 (n : Int), .int .i64 W, .int .i64 B, .int .i64 L], .string s] x fun e w' => e = .returned (.int .i64 (refAt n W B L s)) ∧ Below x.heap.size x w') := fun x => by
    unfold refAt
    rw [if_pos co, if_neg (by omega)]
    exact inner_state n W B L s x (by omega) (by omega) hs (by omega) hk
  generalize outR n s = p1 at *
  generalize refAt n W B L s = p2 at *
  have HS : Hid (s.size ≤ maxLen) := hs
  unfold maxLen at hs
  have HP0 : Hid _ := pen_start w n W B L 23 26
  have hi2 : 2 < s.size := by omega
  have hi4 : 4 < s.size := by omega
  have hi2i : (2 : Int) < s.size := by omega
  have hi4i : (4 : Int) < s.size := by omega
  have H4 : Hid (byt s 4 = s[4].toNat) := byt_eq s 4 hi4
  have hb2 := s[2].toNat_lt
  have hb4 := s[4].toNat_lt
  rw [byt_eq s 2 hi2] at hk
  go_enter Tryd.func24, Tryd.ntmps24
  go_wp2_with fail
  refine (HC.out _).mono ?_
  rintro e w1 ⟨rfl, hb⟩
  have HA1 : Hid (Below w.heap.size w w1) := bthen (below2 _ _ _) hb
  have HP1 : Hid (Pen w.heap.size w1 n W B L) := HP0.out.below hb HP0.out.z
  clear hb HP0
  have D := HP1.out
  have fr := D.s.f
  obtain ⟨u0, hu0⟩ := D.s.r 0 (by omega)
  obtain ⟨u1, hu1⟩ := D.s.r 1 (by omega)
  obtain ⟨u2, hu2⟩ := D.s.r 2 (by omega)
  obtain ⟨u3, hu3⟩ := D.s.r 3 (by omega)
  obtain ⟨u4, hu4⟩ := D.s.r 4 (by omega)
  obtain ⟨u5, hu5⟩ := D.s.r 5 (by omega)
  obtain ⟨u6, hu6⟩ := D.s.r 6 (by omega)
  obtain ⟨c0, c1, c2, c3, _, cz⟩ := D
  go_wp2_with fail
  refine (HO.out _).mono ?_
  rintro e w2 ⟨rfl, hb⟩
  have HA2 : Hid (Below w.heap.size w w2) := bthen HA1.out hb
  have HP2 : Hid (Pen w.heap.size w2 n W B L) := HP1.out.below hb HP1.out.z
  clear hb HP1 HA1
  clear c0 c1 c2 c3 fr hu0 hu1 hu2 hu3 hu4 hu5 hu6 u0 u1 u2 u3 u4 u5 u6 cz
  have D := HP2.out
  have fr := D.s.f
  obtain ⟨u0, hu0⟩ := D.s.r 0 (by omega)
  obtain ⟨u1, hu1⟩ := D.s.r 1 (by omega)
  obtain ⟨u2, hu2⟩ := D.s.r 2 (by omega)
  obtain ⟨u3, hu3⟩ := D.s.r 3 (by omega)
  obtain ⟨u4, hu4⟩ := D.s.r 4 (by omega)
  obtain ⟨u5, hu5⟩ := D.s.r 5 (by omega)
  obtain ⟨u6, hu6⟩ := D.s.r 6 (by omega)
  obtain ⟨c0, c1, c2, c3, _, cz⟩ := D
  go_wp2_with fail
  refine (HIn.out _).mono ?_
  rintro e w3 ⟨rfl, hb⟩
  have HA3 : Hid (Below w.heap.size w w3) := bthen HA2.out hb
  have HP3 : Hid (Pen w.heap.size w3 n W B L) := HP2.out.below hb HP2.out.z
  clear hb HP2 HA2 HC HO HIn
  clear c0 c1 c2 c3 fr hu0 hu1 hu2 hu3 hu4 hu5 hu6 u0 u1 u2 u3 u4 u5 u6 cz
  have D := HP3.out
  have fr := D.s.f
  obtain ⟨u0, hu0⟩ := D.s.r 0 (by omega)
  obtain ⟨u1, hu1⟩ := D.s.r 1 (by omega)
  obtain ⟨u2, hu2⟩ := D.s.r 2 (by omega)
  obtain ⟨u3, hu3⟩ := D.s.r 3 (by omega)
  obtain ⟨u4, hu4⟩ := D.s.r 4 (by omega)
  obtain ⟨u5, hu5⟩ := D.s.r 5 (by omega)
  obtain ⟨u6, hu6⟩ := D.s.r 6 (by omega)
  obtain ⟨c0, c1, c2, c3, _, cz⟩ := D
  go_wp2_with fail
  go_region
  generalize s[4].toNat = k4 at *
  have hT := tab_alloc HP3.out (.int .i64 2) (.int .i64 k4) (.int .i64 0) (.int .i64 0) (.int .i64 0) (.slice none 0 0) (.string ⟨#[]⟩) 26
  have hal : Below w3.heap.size w3 (w3.alloc (.cells #[.int .i64 2, .int .i64 (k4 : Int), .int .i64 0, .int .i64 0, .int .i64 0, .slice none 0 0, .string ⟨#[]⟩] 26)) := (Below.refl _ _).alloc (Nat.le_refl _) _
  generalize hXX : w3.alloc (.cells #[.int .i64 2, .int .i64 (k4 : Int), .int .i64 0, .int .i64 0, .int .i64 0, .slice none 0 0, .string ⟨#[]⟩] 26) = X at *
  have HTX : Hid (Tab w.heap.size w3.heap.size X.drew n W B L _ _ _ _ _ _ _) := hT.below (c := X.heap.size) (Below.refl _ _).drew hT.sev.z
  have HAX : Hid (Below w.heap.size w X.drew) := (bthen HA3.out hal).drew
  generalize w3.heap.size = g at *
  clear hT hal hXX HP3
  clear c0 c1 c2 c3 fr hu0 hu1 hu2 hu3 hu4 hu5 hu6 cz
  generalize X.drew = X1 at *
  have T1 := HTX.out
  obtain ⟨⟨c0, c1, c2, c3, _, _⟩, ⟨e0, e1, e2, e3, e4, e5, e6, ez⟩, ef, eg⟩ := T1
  go_wp2_with fail
  clear c0 c1 c2 c3 e0 e1 e2 e3 e4 e5 e6 ez ef
  obtain ⟨i0, hi, hz0, hz1, hz2⟩ := info_parts Tryd.infoInt
  go_loopw [11] (fun c wr => ∃ (k : Nat) (v : Value), k ≤ n ∧ c = .int .i64 k ∧ OwnI wr (g + 1) v (vecOf s 5 k) ∧ Tab w.heap.size g wr n W B L (.int .i64 2) (.int .i64 k4) (.int .i64 0) (.int .i64 0) (.int .i64 0) v (.string ⟨#[]⟩) ∧ Below w.heap.size w wr) (fun c _ => n - (intOf c).toNat)
  case atStart => exact ⟨0, .slice none 0 0, Nat.zero_le _, rfl, World.ownsRow_nil _ _ _ _, HTX.out, HAX.out⟩
  case round =>
    obtain ⟨k, v, hkn, rfl, hown, htab, hbel⟩ := hrel
    obtain ⟨av, cv, hve⟩ := hown.shape
    rw [vecOf_length] at hve
    subst hve
    have HOwn : Hid (OwnI wr (g + 1) (.slice av k cv) (vecOf s 5 k)) := hown
    have HTab : Hid (Tab w.heap.size g wr n W B L (.int .i64 2) (.int .i64 k4) (.int .i64 0) (.int .i64 0) (.int .i64 0) (.slice av k cv) (.string ⟨#[]⟩)) := htab
    have HBel : Hid (Below w.heap.size w wr) := hbel
    obtain ⟨⟨c0, c1, c2, c3, ⟨sr, sf, _⟩, _⟩, ⟨e0, e1, e2, e3, e4, e5, e6, ez⟩, ef, _⟩ := htab
    clear hown hbel
    by_cases hlt : k < n
    · have HX : Hid (∀ w, Calls Tryd.prog 44 #[.string s, .int .i64 ((5 : Int) + 2 * (k : Int)), .int .i64 2] w fun e w' => e = .returned (.int .i64 (val s (5 + 2 * k) 2)) ∧ w' = w) := fun w => refValue_int s ((5 : Int) + 2 * (k : Int)) 2 (5 + 2 * k) 2 (by omega) rfl w HS.out (by omega) (by omega)
      have HV : Hid (vecOf s 5 (k + 1) = vecOf s 5 k ++ [(val s (5 + 2 * k) 2 : Int)]) := vecOf_succ s 5 k
      have HL : Hid ((vecOf s 5 k).length = k) := vecOf_length s 5 k
      generalize val s (5 + 2 * k) 2 = y at *
      clear sr sf
      go_wp2_with fail
      refine (HX.out _).mono ?_
      rintro e w' ⟨rfl, rfl⟩
      go_wp2_with (at_builtin; refine wpList_append_own _ rfl (.tmp 74) (.tmp 76) 24 rfl (g + 1) 3 i0 (.int .i64 0) 1 8 Tryd.underlying24 hi hz0 hz1 hz2 rfl (by decide) _ _ _ rfl (HOwn.out.alloc _) ⟨w'.heap.size, 0, none⟩ 1 1 [.int .i64 (y : Int)] rfl rfl ?c1 ?c2 ?c3 ?c4 ?c5 ?_)
      case c1 =>
        intro q u hq
        match q, hq with
        | 0, hq => simp at hq; subst hq; simp [Addr.add]
      case c2 => intro u hu; simp at hu; subst hu; rfl
      case c3 => rw [HL.out]; unfold maxLen; omega
      case c4 => rw [HL.out]; omega
      case c5 => simp; omega
      · intro v' w5 hown' hgrow _
        have R := OwnI.snoc (y : Int) _ HOwn.out hown' hgrow (by omega)
        rw [← HV.out] at R
        obtain ⟨av', cv', hve⟩ := R.1.shape
        rw [vecOf_length] at hve
        subst hve
        have HO5 : Hid (OwnI w5 (g + 1) (.slice av' (k + 1) cv') (vecOf s 5 (k + 1))) := R.1
        have HB5 : Hid (Below (g + 1) w' w5) := R.2
        have HT5 : Hid _ := HTab.out.below R.2 (Nat.lt_succ_self g)
        have hT5 := HT5.out
        clear hown' hgrow R c0 c1 c2 c3 e0 e1 e2 e3 e4 e5 e6 ez ef
        obtain ⟨⟨c0, c1, c2, c3, _, _⟩, ⟨e0, e1, e2, e3, e4, e5, e6, ez⟩, ef, _⟩ := hT5
        go_wp2_with fail
        go_roundw
        case rel => exact ⟨k + 1, .slice av' (k + 1) cv', by omega, by go_num, HO5.out.other (Nat.lt_succ_self g) _, HT5.out.set5 (.slice av' (k + 1) cv'), (HBel.out.trans (HB5.out.mono (by omega))).setCell (by show w.heap.size ≤ g; omega) _⟩
        case measure => simp [intOf]; omega
    · have hkn' : k = n := by omega
      subst hkn'
      have fr := sf
      obtain ⟨u0, hu0⟩ := sr 0 (by omega)
      obtain ⟨u1, hu1⟩ := sr 1 (by omega)
      obtain ⟨u2, hu2⟩ := sr 2 (by omega)
      obtain ⟨u3, hu3⟩ := sr 3 (by omega)
      obtain ⟨u4, hu4⟩ := sr 4 (by omega)
      obtain ⟨u5, hu5⟩ := sr 5 (by omega)
      obtain ⟨u6, hu6⟩ := sr 6 (by omega)
      go_wp2_with fail
      obtain ⟨r0, r1, r2, r3, r4, r5, r6⟩ := Slots.seven HTab.out.pen.s (.int .i64 2) (.int .i64 k4) (.int .i64 0) (.int .i64 0) (.int .i64 0) (.slice av k cv) (.string ⟨#[]⟩) _ rfl
      refine bodyPost_ret (v := .tuple #[.agg #[.int .i64 2, .int .i64 k4, .int .i64 0, .int .i64 0, .int .i64 0, .slice av k cv, .string ⟨#[]⟩], .int .i64 0, .int .i64 0]) (by simp [results, Tryd.results24, go_sem, r0, r1, r2, r3, r4, r5, r6]) rfl ⟨⟨.slice av k cv, by rw [H4.out], ?_⟩, ?_⟩
      · exact (HOwn.out.set7 (by omega) _ _ _ _ _ _ _).mono (by omega)
      · exact below_set7 HBel.out (by omega) _ _ _ _ _ _ _
end Go.Proofs.YtabecbjfamphbaaDoor
