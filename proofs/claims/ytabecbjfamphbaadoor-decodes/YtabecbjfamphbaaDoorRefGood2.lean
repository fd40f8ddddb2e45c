/-
  The reference's Decode of a Data frame.
-/
import Derived.Test.YtabecbjfamphbaaDoorRefGood
namespace Go.Proofs.YtabecbjfamphbaaDoor
open Go.RowKit Go.Stop Go.Extern

theorem Tab.set2 {z g : Nat} {x : World} {N W B L : Int} {v0 v1 v2 v3 v4 v5 v6 : Value} (h : Tab z g x N W B L v0 v1 v2 v3 v4 v5 v6) (v : Value) : Tab z g (x.setCell ⟨g, 2, none⟩ v) N W B L v0 v1 v v3 v4 v5 v6 := by
  obtain ⟨hp, ⟨c0, c1, c2, c3, c4, c5, c6, cz⟩, hf, hz⟩ := h
  refine ⟨hp.other _ hz, ?_, fun i => (frozen_set _ _ _ _).trans (hf i), hz⟩
  refine ⟨?_, ?_, ?_, ?_, ?_, ?_, ?_, by simpa [World.setCell] using cz⟩ <;> go_simp
theorem Tab.set3 {z g : Nat} {x : World} {N W B L : Int} {v0 v1 v2 v3 v4 v5 v6 : Value} (h : Tab z g x N W B L v0 v1 v2 v3 v4 v5 v6) (v : Value) : Tab z g (x.setCell ⟨g, 3, none⟩ v) N W B L v0 v1 v2 v v4 v5 v6 := by
  obtain ⟨hp, ⟨c0, c1, c2, c3, c4, c5, c6, cz⟩, hf, hz⟩ := h
  refine ⟨hp.other _ hz, ?_, fun i => (frozen_set _ _ _ _).trans (hf i), hz⟩
  refine ⟨?_, ?_, ?_, ?_, ?_, ?_, ?_, by simpa [World.setCell] using cz⟩ <;> go_simp
theorem Tab.set4 {z g : Nat} {x : World} {N W B L : Int} {v0 v1 v2 v3 v4 v5 v6 : Value} (h : Tab z g x N W B L v0 v1 v2 v3 v4 v5 v6) (v : Value) : Tab z g (x.setCell ⟨g, 4, none⟩ v) N W B L v0 v1 v2 v3 v v5 v6 := by
  obtain ⟨hp, ⟨c0, c1, c2, c3, c4, c5, c6, cz⟩, hf, hz⟩ := h
  refine ⟨hp.other _ hz, ?_, fun i => (frozen_set _ _ _ _).trans (hf i), hz⟩
  refine ⟨?_, ?_, ?_, ?_, ?_, ?_, ?_, by simpa [World.setCell] using cz⟩ <;> go_simp
theorem Tab.set6 {z g : Nat} {x : World} {N W B L : Int} {v0 v1 v2 v3 v4 v5 v6 : Value} (h : Tab z g x N W B L v0 v1 v2 v3 v4 v5 v6) (v : Value) : Tab z g (x.setCell ⟨g, 6, none⟩ v) N W B L v0 v1 v2 v3 v4 v5 v := by
  obtain ⟨hp, ⟨c0, c1, c2, c3, c4, c5, c6, cz⟩, hf, hz⟩ := h
  refine ⟨hp.other _ hz, ?_, fun i => (frozen_set _ _ _ _).trans (hf i), hz⟩
  refine ⟨?_, ?_, ?_, ?_, ?_, ?_, ?_, by simpa [World.setCell] using cz⟩ <;> go_simp

set_option maxRecDepth 100000 in
set_option maxHeartbeats 2000000 in
theorem refDecode_data (n : Nat) (W B L : Int) (s : ByteArray) (w : World) (hG : okG n W B L = true) (hs : s.size ≤ maxLen) (hat : refAt n W B L s < 0) (hk : byt s 2 = 1) :
    Calls Tryd.prog 24 #[.agg #[.int .i64 (n : Int), .int .i64 W, .int .i64 B, .int .i64 L], .string s] w
      fun e w' => (∃ v, e = .returned (.tuple #[.agg #[.int .i64 1, .int .i64 (byt s 4), .int .i64 (byt s 5), .int .i64 (val s 6 2), .int .i64 (val s 8 2), v, .string (s.extract (11 + 2 * n) (s.size - 4))], .int .i64 0, .int .i64 0]) ∧ OwnI w' w.heap.size v (vecOf s 10 n)) ∧ Below w.heap.size w w' := by
  obtain ⟨h1, h2, h3, h4, -, -, -, -⟩ := okG_iff.1 hG
  have HC : Hid (∀ x, Calls Tryd.prog 17 #[.agg #[.int .i64 (n : Int), .int .i64 W, .int .i64 B, .int .i64 L]] x fun e w' => e = .returned (.int .i64 0) ∧ Below x.heap.size x w') := fun x => by
    have := refCheck_any n W B L x
    rw [hG] at this
    exact this
  have HO : Hid (∀ x, Calls Tryd.prog 42 #[.agg #[.int .i64 (n : Int), .int .i64 W, .int .i64 B, .int .i64 L], .string s] x fun e w' => e = .returned (.int .i64 (outR n s)) ∧ Below x.heap.size x w') := fun x => outer_any n W B L s x (by omega) (by omega) hs
  clear hG
  have co : outR n s < 0 := by
    unfold refAt at hat
    by_cases co : outR n s < 0
    · exact co
    · rw [if_neg co] at hat; omega
  have hsz : 15 + 2 * n ≤ s.size := by rcases outR_neg co with ⟨k, hl⟩ | ⟨k, hl⟩ <;> omega
  have HIn : Hid (∀ x, Calls Tryd.prog 43 #[.agg #[.int .i64 (n : Int), .int .i64 W, .int .i64 B, .int .i64 L], .string s] x fun e w' => e = .returned (.int .i64 (refAt n W B L s)) ∧ Below x.heap.size x w') := fun x => by
    unfold refAt
    rw [if_pos co, if_pos hk]
    exact inner_data n W B L s x (by omega) (by omega) h3 h4 hs hsz hk
  generalize outR n s = p1 at *
  generalize refAt n W B L s = p2 at *
  have HS : Hid (s.size ≤ maxLen) := hs
  unfold maxLen at hs
  have HP0 : Hid _ := pen_start w n W B L 23 26
  have hi2 : 2 < s.size := by omega
  have hi4 : 4 < s.size := by omega
  have hi2i : (2 : Int) < s.size := by omega
  have hi4i : (4 : Int) < s.size := by omega
  have H4 : Hid (byt s 4 = s[4].toNat) := byt_eq s 4 hi4
  have hi5 : 5 < s.size := by omega
  have hi5i : (5 : Int) < s.size := by omega
  have H5 : Hid (byt s 5 = s[5].toNat) := byt_eq s 5 hi5
  have hb5 := s[5].toNat_lt
  have HX6 : Hid (∀ w, Calls Tryd.prog 44 #[.string s, .int .i64 6, .int .i64 2] w fun e w' => e = .returned (.int .i64 (val s 6 2)) ∧ w' = w) := fun w => refValue_int s 6 2 6 2 rfl rfl w HS.out (by omega) (by omega)
  have HX8 : Hid (∀ w, Calls Tryd.prog 44 #[.string s, .int .i64 8, .int .i64 2] w fun e w' => e = .returned (.int .i64 (val s 8 2)) ∧ w' = w) := fun w => refValue_int s 8 2 8 2 rfl rfl w HS.out (by omega) (by omega)
  have hb2 := s[2].toNat_lt
  have hb4 := s[4].toNat_lt
  rw [byt_eq s 2 hi2] at hk
  go_enter Tryd.func24, Tryd.ntmps24
  go_wp2_with fail
  refine (HC.out _).mono ?_
  rintro e w1 ⟨rfl, hb⟩
  have HA1 : Hid (Below w.heap.size w w1) := bthen (below2 _ _ _) hb
  have HP1 : Hid (Pen w.heap.size w1 n W B L) := HP0.out.below hb HP0.out.z
  clear hb HP0
  have D := HP1.out
  have fr := D.s.f
  obtain ⟨u0, hu0⟩ := D.s.r 0 (by omega)
  obtain ⟨u1, hu1⟩ := D.s.r 1 (by omega)
  obtain ⟨u2, hu2⟩ := D.s.r 2 (by omega)
  obtain ⟨u3, hu3⟩ := D.s.r 3 (by omega)
  obtain ⟨u4, hu4⟩ := D.s.r 4 (by omega)
  obtain ⟨u5, hu5⟩ := D.s.r 5 (by omega)
  obtain ⟨u6, hu6⟩ := D.s.r 6 (by omega)
  obtain ⟨c0, c1, c2, c3, _, cz⟩ := D
  go_wp2_with fail
  refine (HO.out _).mono ?_
  rintro e w2 ⟨rfl, hb⟩
  have HA2 : Hid (Below w.heap.size w w2) := bthen HA1.out hb
  have HP2 : Hid (Pen w.heap.size w2 n W B L) := HP1.out.below hb HP1.out.z
  clear hb HP1 HA1
  clear c0 c1 c2 c3 fr hu0 hu1 hu2 hu3 hu4 hu5 hu6 u0 u1 u2 u3 u4 u5 u6 cz
  have D := HP2.out
  have fr := D.s.f
  obtain ⟨u0, hu0⟩ := D.s.r 0 (by omega)
  obtain ⟨u1, hu1⟩ := D.s.r 1 (by omega)
  obtain ⟨u2, hu2⟩ := D.s.r 2 (by omega)
  obtain ⟨u3, hu3⟩ := D.s.r 3 (by omega)
  obtain ⟨u4, hu4⟩ := D.s.r 4 (by omega)
  obtain ⟨u5, hu5⟩ := D.s.r 5 (by omega)
  obtain ⟨u6, hu6⟩ := D.s.r 6 (by omega)
  obtain ⟨c0, c1, c2, c3, _, cz⟩ := D
  go_wp2_with fail
  refine (HIn.out _).mono ?_
  rintro e w3 ⟨rfl, hb⟩
  have HA3 : Hid (Below w.heap.size w w3) := bthen HA2.out hb
  have HP3 : Hid (Pen w.heap.size w3 n W B L) := HP2.out.below hb HP2.out.z
  clear hb HP2 HA2 HC HO HIn
  clear c0 c1 c2 c3 fr hu0 hu1 hu2 hu3 hu4 hu5 hu6 u0 u1 u2 u3 u4 u5 u6 cz
  have D := HP3.out
  have fr := D.s.f
  obtain ⟨u0, hu0⟩ := D.s.r 0 (by omega)
  obtain ⟨u1, hu1⟩ := D.s.r 1 (by omega)
  obtain ⟨u2, hu2⟩ := D.s.r 2 (by omega)
  obtain ⟨u3, hu3⟩ := D.s.r 3 (by omega)
  obtain ⟨u4, hu4⟩ := D.s.r 4 (by omega)
  obtain ⟨u5, hu5⟩ := D.s.r 5 (by omega)
  obtain ⟨u6, hu6⟩ := D.s.r 6 (by omega)
  obtain ⟨c0, c1, c2, c3, _, cz⟩ := D
  go_wp2_with fail
  go_region
  generalize s[4].toNat = k4 at *
  have hT := tab_alloc HP3.out (.int .i64 1) (.int .i64 k4) (.int .i64 0) (.int .i64 0) (.int .i64 0) (.slice none 0 0) (.string ⟨#[]⟩) 26
  have hal : Below w3.heap.size w3 (w3.alloc (.cells #[.int .i64 1, .int .i64 (k4 : Int), .int .i64 0, .int .i64 0, .int .i64 0, .slice none 0 0, .string ⟨#[]⟩] 26)) := (Below.refl _ _).alloc (Nat.le_refl _) _
  generalize hXX : w3.alloc (.cells #[.int .i64 1, .int .i64 (k4 : Int), .int .i64 0, .int .i64 0, .int .i64 0, .slice none 0 0, .string ⟨#[]⟩] 26) = X at *
  have HTX : Hid (Tab w.heap.size w3.heap.size X.drew n W B L _ _ _ _ _ _ _) := hT.below (c := X.heap.size) (Below.refl _ _).drew hT.sev.z
  have HAX : Hid (Below w.heap.size w X.drew) := (bthen HA3.out hal).drew
  generalize w3.heap.size = g at *
  clear hT hal hXX HP3
  clear c0 c1 c2 c3 fr hu0 hu1 hu2 hu3 hu4 hu5 hu6 cz
  generalize X.drew = X1 at *
  have T1 := HTX.out
  obtain ⟨⟨c0, c1, c2, c3, _, _⟩, ⟨e0, e1, e2, e3, e4, e5, e6, ez⟩, ef, eg⟩ := T1
  have hl1 : (11 : Int) + 2 * (n : Int) ≤ (s.size : Int) - 4 := by omega
  have hl2 : (4 : Int) ≤ (s.size : Int) := by omega
  go_wp2_with fail
  refine (HX6.out _).mono ?_
  rintro e w4' ⟨rfl, rfl⟩
  generalize s[5].toNat = k5 at *
  have HTY : Hid _ := HTX.out.set2 (.int .i64 k5)
  have HAY : Hid (Below w.heap.size w (X1.setCell ⟨g, 2, none⟩ (.int .i64 (k5 : Int)))) := HAX.out.setCell (by show w.heap.size ≤ g; omega) _
  generalize X1.setCell ⟨g, 2, none⟩ (.int .i64 (k5 : Int)) = X2 at *
  clear HTX HAX
  clear c0 c1 c2 c3 e0 e1 e2 e3 e4 e5 e6 ez ef
  have T1 := HTY.out
  obtain ⟨⟨c0, c1, c2, c3, _, _⟩, ⟨e0, e1, e2, e3, e4, e5, e6, ez⟩, ef, eg⟩ := T1
  have hv6 := val_le2 s 6
  have hv8 := val_le2 s 8
  go_wp2_with fail
  refine (HX8.out _).mono ?_
  rintro e w4' ⟨rfl, rfl⟩
  have HTZ : Hid _ := HTY.out.set3 (.int .i64 (val s 6 2))
  have HAZ : Hid (Below w.heap.size w (X2.setCell ⟨g, 3, none⟩ (.int .i64 (val s 6 2 : Int)))) := HAY.out.setCell (by show w.heap.size ≤ g; omega) _
  generalize X2.setCell ⟨g, 3, none⟩ (.int .i64 (val s 6 2 : Int)) = X3 at *
  clear HTY HAY
  clear c0 c1 c2 c3 e0 e1 e2 e3 e4 e5 e6 ez ef
  have T1 := HTZ.out
  obtain ⟨⟨c0, c1, c2, c3, _, _⟩, ⟨e0, e1, e2, e3, e4, e5, e6, ez⟩, ef, eg⟩ := T1
  go_wp2_with fail
  have HTX : Hid _ := (HTZ.out.set4 (.int .i64 (val s 8 2))).set6 (.string (s.extract (11 + 2 * n) (s.size - 4)))
  have HAX : Hid (Below w.heap.size w ((X3.setCell ⟨g, 4, none⟩ (.int .i64 (val s 8 2 : Int))).setCell ⟨g, 6, none⟩ (.string (s.extract (11 + 2 * n) (s.size - 4))))) := (HAZ.out.setCell (by show w.heap.size ≤ g; omega) _).setCell (by show w.heap.size ≤ g; omega) _
  generalize (X3.setCell ⟨g, 4, none⟩ (.int .i64 (val s 8 2 : Int))).setCell ⟨g, 6, none⟩ (.string (s.extract (11 + 2 * n) (s.size - 4))) = X4 at *
  clear HTZ HAZ
  clear c0 c1 c2 c3 e0 e1 e2 e3 e4 e5 e6 ez ef
  obtain ⟨i0, hi, hz0, hz1, hz2⟩ := info_parts Tryd.infoInt
  go_loopw [11] (fun c wr => ∃ (k : Nat) (v : Value), k ≤ n ∧ c = .int .i64 k ∧ OwnI wr (g + 1) v (vecOf s 10 k) ∧ Tab w.heap.size g wr n W B L (.int .i64 1) (.int .i64 k4) (.int .i64 k5) (.int .i64 (val s 6 2)) (.int .i64 (val s 8 2)) v (.string (s.extract (11 + 2 * n) (s.size - 4))) ∧ Below w.heap.size w wr) (fun c _ => n - (intOf c).toNat)
  case atStart => exact ⟨0, .slice none 0 0, Nat.zero_le _, rfl, World.ownsRow_nil _ _ _ _, HTX.out, HAX.out⟩
  case round =>
    obtain ⟨k, v, hkn, rfl, hown, htab, hbel⟩ := hrel
    obtain ⟨av, cv, hve⟩ := hown.shape
    rw [vecOf_length] at hve
    subst hve
    have HOwn : Hid (OwnI wr (g + 1) (.slice av k cv) (vecOf s 10 k)) := hown
    have HTab : Hid (Tab w.heap.size g wr n W B L (.int .i64 1) (.int .i64 k4) (.int .i64 k5) (.int .i64 (val s 6 2)) (.int .i64 (val s 8 2)) (.slice av k cv) (.string (s.extract (11 + 2 * n) (s.size - 4)))) := htab
    have HBel : Hid (Below w.heap.size w wr) := hbel
    obtain ⟨⟨c0, c1, c2, c3, ⟨sr, sf, _⟩, _⟩, ⟨e0, e1, e2, e3, e4, e5, e6, ez⟩, ef, _⟩ := htab
    clear hown hbel
    by_cases hlt : k < n
    · have HX : Hid (∀ w, Calls Tryd.prog 44 #[.string s, .int .i64 ((10 : Int) + 2 * (k : Int)), .int .i64 2] w fun e w' => e = .returned (.int .i64 (val s (10 + 2 * k) 2)) ∧ w' = w) := fun w => refValue_int s ((10 : Int) + 2 * (k : Int)) 2 (10 + 2 * k) 2 (by omega) rfl w HS.out (by omega) (by omega)
      have HV : Hid (vecOf s 10 (k + 1) = vecOf s 10 k ++ [(val s (10 + 2 * k) 2 : Int)]) := vecOf_succ s 10 k
      have HL : Hid ((vecOf s 10 k).length = k) := vecOf_length s 10 k
      generalize val s (10 + 2 * k) 2 = y at *
      clear sr sf
      go_wp2_with fail
      refine (HX.out _).mono ?_
      rintro e w' ⟨rfl, rfl⟩
      go_wp2_with (at_builtin; refine wpList_append_own _ rfl (.tmp 74) (.tmp 76) 24 rfl (g + 1) 3 i0 (.int .i64 0) 1 8 Tryd.underlying24 hi hz0 hz1 hz2 rfl (by decide) _ _ _ rfl (HOwn.out.alloc _) ⟨w'.heap.size, 0, none⟩ 1 1 [.int .i64 (y : Int)] rfl rfl ?c1 ?c2 ?c3 ?c4 ?c5 ?_)
      case c1 =>
        intro q u hq
        match q, hq with
        | 0, hq => simp at hq; subst hq; simp [Addr.add]
      case c2 => intro u hu; simp at hu; subst hu; rfl
      case c3 => rw [HL.out]; unfold maxLen; omega
      case c4 => rw [HL.out]; omega
      case c5 => simp; omega
      · intro v' w5 hown' hgrow _
        have R := OwnI.snoc (y : Int) _ HOwn.out hown' hgrow (by omega)
        rw [← HV.out] at R
        obtain ⟨av', cv', hve⟩ := R.1.shape
        rw [vecOf_length] at hve
        subst hve
        have HO5 : Hid (OwnI w5 (g + 1) (.slice av' (k + 1) cv') (vecOf s 10 (k + 1))) := R.1
        have HB5 : Hid (Below (g + 1) w' w5) := R.2
        have HT5 : Hid _ := HTab.out.below R.2 (Nat.lt_succ_self g)
        have hT5 := HT5.out
        clear hown' hgrow R c0 c1 c2 c3 e0 e1 e2 e3 e4 e5 e6 ez ef
        obtain ⟨⟨c0, c1, c2, c3, _, _⟩, ⟨e0, e1, e2, e3, e4, e5, e6, ez⟩, ef, _⟩ := hT5
        go_wp2_with fail
        go_roundw
        case rel => exact ⟨k + 1, .slice av' (k + 1) cv', by omega, by go_num, HO5.out.other (Nat.lt_succ_self g) _, HT5.out.set5 (.slice av' (k + 1) cv'), (HBel.out.trans (HB5.out.mono (by omega))).setCell (by show w.heap.size ≤ g; omega) _⟩
        case measure => simp [intOf]; omega
    · have hkn' : k = n := by omega
      subst hkn'
      have fr := sf
      obtain ⟨u0, hu0⟩ := sr 0 (by omega)
      obtain ⟨u1, hu1⟩ := sr 1 (by omega)
      obtain ⟨u2, hu2⟩ := sr 2 (by omega)
      obtain ⟨u3, hu3⟩ := sr 3 (by omega)
      obtain ⟨u4, hu4⟩ := sr 4 (by omega)
      obtain ⟨u5, hu5⟩ := sr 5 (by omega)
      obtain ⟨u6, hu6⟩ := sr 6 (by omega)
      go_wp2_with fail
      obtain ⟨r0, r1, r2, r3, r4, r5, r6⟩ := Slots.seven HTab.out.pen.s (.int .i64 1) (.int .i64 k4) (.int .i64 k5) (.int .i64 (val s 6 2)) (.int .i64 (val s 8 2)) (.slice av k cv) (.string (s.extract (11 + 2 * k) (s.size - 4))) _ rfl
      refine bodyPost_ret (v := .tuple #[.agg #[.int .i64 1, .int .i64 k4, .int .i64 k5, .int .i64 (val s 6 2), .int .i64 (val s 8 2), .slice av k cv, .string (s.extract (11 + 2 * k) (s.size - 4))], .int .i64 0, .int .i64 0]) (by simp [results, Tryd.results24, go_sem, r0, r1, r2, r3, r4, r5, r6]) rfl ⟨⟨.slice av k cv, by rw [H4.out, H5.out], ?_⟩, ?_⟩
      · exact (HOwn.out.set7 (by omega) _ _ _ _ _ _ _).mono (by omega)
      · exact below_set7 HBel.out (by omega) _ _ _ _ _ _ _
end Go.Proofs.YtabecbjfamphbaaDoor
