/-
  Texts that the proof needs, joined: RefOut.
-/
import Derived.Test.YtabecbjfamphbaaGreatDoorS14
/- The reference's outer: P6 ahead of the kinds' own bytes. -/
namespace Go.Proofs.YtabecbjfamphbaaGreatDoor
open Go.RowKit Go.Stop Go.Extern

def outR (n : Nat) (s : ByteArray) : Int :=
  if (s.size : Int) < 9 + 2 * n then s.size else if marked s = false then 0 else if val s (s.size - 4) 4 ≠ sumAhead s then (s.size : Int) - 4 else
  if ¬ (byt s 2 = 1 ∨ byt s 2 = 2) then 2 else if byt s 3 ≠ n then 3 else if n ≤ byt s 4 then 4 else
  if byt s 2 = 2 ∧ s.size ≠ 9 + 2 * n then s.size else if byt s 2 = 1 ∧ s.size < 15 + 2 * n then s.size else -1

theorem markedR {s : ByteArray} (h0 : 0 < s.size) (h1 : 1 < s.size) : marked s = decide (s[0].toNat = 104 ∧ s[1].toNat = 115) := by
  unfold marked
  rw [byt_eq s 0 h0, byt_eq s 1 h1]

set_option maxRecDepth 100000 in
set_option maxHeartbeats 2000000 in
theorem outer_any (n : Nat) (W B L : Int) (s : ByteArray) (w : World) (h1 : 2 ≤ n) (h2 : n ≤ 8) (hs : s.size ≤ maxLen) :
    Calls Tryz.prog 199 #[.agg #[.int .i64 (n : Int), .int .i64 W, .int .i64 B, .int .i64 L], .string s] w fun e w' => e = .returned (.int .i64 (outR n s)) ∧ Below w.heap.size w w' := by
  have HS : Hid (s.size ≤ maxLen) := hs
  unfold maxLen at hs
  by_cases c1 : (s.size : Int) < 9 + 2 * n
  · have HR : Hid (outR n s = s.size) := if_pos c1
    go_enter Tryz.func199, Tryz.ntmps199
    go_wp2_with fail
    go_ret
    rw [HR.out]
    exact ⟨rfl, below1 _ _⟩
  have hi0 : 0 < s.size := by omega
  have hi0i : (0 : Int) < s.size := by omega
  have H0 : Hid (byt s 0 = s[0].toNat) := byt_eq s 0 hi0
  have hb0 := s[0].toNat_lt
  have hi1 : 1 < s.size := by omega
  have hi1i : (1 : Int) < s.size := by omega
  have H1 : Hid (byt s 1 = s[1].toNat) := byt_eq s 1 hi1
  have hb1 := s[1].toNat_lt
  have hi2 : 2 < s.size := by omega
  have hi2i : (2 : Int) < s.size := by omega
  have H2 : Hid (byt s 2 = s[2].toNat) := byt_eq s 2 hi2
  have hb2 := s[2].toNat_lt
  have hi3 : 3 < s.size := by omega
  have hi3i : (3 : Int) < s.size := by omega
  have H3 : Hid (byt s 3 = s[3].toNat) := byt_eq s 3 hi3
  have hb3 := s[3].toNat_lt
  have hi4 : 4 < s.size := by omega
  have hi4i : (4 : Int) < s.size := by omega
  have H4 : Hid (byt s 4 = s[4].toNat) := byt_eq s 4 hi4
  have hb4 := s[4].toNat_lt
  have hi : (4 : Int) ≤ (s.size : Int) := by omega
  have HX : Hid (∀ w, Calls Tryz.prog 160 #[.string (s.extract 0 (s.size - 4))] w fun e w' => e = .returned (.int .i64 (sumAhead s)) ∧ w' = w) := fun w => by
    have := refSum_any (s.extract 0 (s.size - 4)) w (by rw [ByteArray.size_extract]; have := HS.out; omega)
    rw [extract_take] at this
    exact this
  have HN : Hid (∀ w, Calls Tryz.prog 201 #[.string s, .int .i64 ((s.size : Int) - 4), .int .i64 4] w fun e w' => e = .returned (.int .i64 (val s (s.size - 4) 4)) ∧ w' = w) := fun w => refValue_int s ((s.size : Int) - 4) 4 (s.size - 4) 4 (by omega) rfl w HS.out (by omega) (by omega)
  have HM : Hid (marked s = decide (s[0].toNat = 104 ∧ s[1].toNat = 115)) := markedR hi0 hi1
  by_cases m0 : ¬ s[0].toNat = 104
  · have HR : Hid (outR n s = 0) := by show outR n s = 0; unfold outR; rw [if_neg c1, if_pos (by rw [HM.out, decide_eq_false (by omega)])]
    have m0b : ((s[0].toNat : Int) != 104) = true := bne_iff_ne.2 (by omega)
    clear m0
    go_enter Tryz.func199, Tryz.ntmps199
    go_wp2_with (first | (go_at_call 160; refine (HX.out _).mono ?_; rintro e w' ⟨rfl, rfl⟩) | (go_at_call 201; refine (HN.out _).mono ?_; rintro e w' ⟨rfl, rfl⟩))
    go_ret
    rw [HR.out]
    exact ⟨rfl, below1 _ _⟩
  have m0b : ((s[0].toNat : Int) != 104) = false := by simp; omega
  by_cases m1 : ¬ s[1].toNat = 115
  · have HR : Hid (outR n s = 0) := by show outR n s = 0; unfold outR; rw [if_neg c1, if_pos (by rw [HM.out, decide_eq_false (by omega)])]
    have m1b : ((s[1].toNat : Int) != 115) = true := bne_iff_ne.2 (by omega)
    clear m0 m1
    go_enter Tryz.func199, Tryz.ntmps199
    go_wp2_with (first | (go_at_call 160; refine (HX.out _).mono ?_; rintro e w' ⟨rfl, rfl⟩) | (go_at_call 201; refine (HN.out _).mono ?_; rintro e w' ⟨rfl, rfl⟩))
    go_ret
    rw [HR.out]
    exact ⟨rfl, below1 _ _⟩
  have m1b : ((s[1].toNat : Int) != 115) = false := by simp; omega
  have HMt : Hid (¬ marked s = false) := by show ¬ marked s = false; rw [HM.out, decide_eq_true (by omega)]; simp
  clear m0 m1
  generalize hv4 : val s (s.size - 4) 4 = x4 at *
  generalize hsa : sumAhead s = y4 at *
  have HV4 : Hid _ := hv4
  have HSA : Hid _ := hsa
  clear hv4 hsa
  by_cases c3 : x4 ≠ y4
  · have HR : Hid (outR n s = (s.size : Int) - 4) := by show outR n s = (s.size : Int) - 4; unfold outR; rw [if_neg c1, if_neg HMt.out, HV4.out, HSA.out, if_pos c3]
    have c3b : ((x4 : Int) != (y4 : Int)) = true := bne_iff_ne.2 (by omega)
    clear c3
    go_enter Tryz.func199, Tryz.ntmps199
    go_wp2_with (first | (go_at_call 160; refine (HX.out _).mono ?_; rintro e w' ⟨rfl, rfl⟩) | (go_at_call 201; refine (HN.out _).mono ?_; rintro e w' ⟨rfl, rfl⟩))
    go_ret
    rw [HR.out]
    exact ⟨rfl, below1 _ _⟩
  have c3b : ((x4 : Int) != (y4 : Int)) = false := by simp; omega
  by_cases c4 : ¬ (s[2].toNat = 1 ∨ s[2].toNat = 2)
  · have HR : Hid (outR n s = 2) := by show outR n s = 2; unfold outR; rw [if_neg c1, if_neg HMt.out, HV4.out, HSA.out, if_neg c3, H2.out, if_pos c4]
    have c4b : ((s[2].toNat : Int) != 1) = true := bne_iff_ne.2 (by omega)
    have c4c : ((s[2].toNat : Int) != 2) = true := bne_iff_ne.2 (by omega)
    clear c3 c4
    go_enter Tryz.func199, Tryz.ntmps199
    go_wp2_with (first | (go_at_call 160; refine (HX.out _).mono ?_; rintro e w' ⟨rfl, rfl⟩) | (go_at_call 201; refine (HN.out _).mono ?_; rintro e w' ⟨rfl, rfl⟩))
    go_ret
    rw [HR.out]
    exact ⟨rfl, below1 _ _⟩
  by_cases c5 : s[3].toNat ≠ n
  · rcases (Decidable.not_not.1 c4) with k2 | k2
    · skip
      have HR : Hid (outR n s = 3) := by show outR n s = 3; unfold outR; rw [if_neg c1, if_neg HMt.out, HV4.out, HSA.out, if_neg c3, H2.out, if_neg c4, H3.out, if_pos c5]
      have c5b : ((s[3].toNat : Int) != (n : Int)) = true := bne_iff_ne.2 (by omega)
      have k2b : ((s[2].toNat : Int) != 1) = false := by rw [k2]; rfl
      have k2c : ((s[2].toNat : Int) != 2) = true := by rw [k2]; rfl
      have k2d : ((s[2].toNat : Int) == 1) = true := by rw [k2]; rfl
      have k2e : ((s[2].toNat : Int) == 2) = false := by rw [k2]; rfl
      clear c3 c4 c5 k2
      go_enter Tryz.func199, Tryz.ntmps199
      go_wp2_with (first | (go_at_call 160; refine (HX.out _).mono ?_; rintro e w' ⟨rfl, rfl⟩) | (go_at_call 201; refine (HN.out _).mono ?_; rintro e w' ⟨rfl, rfl⟩))
      go_quiet (fail)
      go_wp2_with (first | (go_at_call 160; refine (HX.out _).mono ?_; rintro e w' ⟨rfl, rfl⟩) | (go_at_call 201; refine (HN.out _).mono ?_; rintro e w' ⟨rfl, rfl⟩))
      go_ret
      rw [HR.out]
      exact ⟨rfl, below_drewN (below1 _ _) _⟩
    · skip
      have HR : Hid (outR n s = 3) := by show outR n s = 3; unfold outR; rw [if_neg c1, if_neg HMt.out, HV4.out, HSA.out, if_neg c3, H2.out, if_neg c4, H3.out, if_pos c5]
      have c5b : ((s[3].toNat : Int) != (n : Int)) = true := bne_iff_ne.2 (by omega)
      have k2b : ((s[2].toNat : Int) != 1) = true := by rw [k2]; rfl
      have k2c : ((s[2].toNat : Int) != 2) = false := by rw [k2]; rfl
      have k2d : ((s[2].toNat : Int) == 1) = false := by rw [k2]; rfl
      have k2e : ((s[2].toNat : Int) == 2) = true := by rw [k2]; rfl
      clear c3 c4 c5 k2
      go_enter Tryz.func199, Tryz.ntmps199
      go_wp2_with (first | (go_at_call 160; refine (HX.out _).mono ?_; rintro e w' ⟨rfl, rfl⟩) | (go_at_call 201; refine (HN.out _).mono ?_; rintro e w' ⟨rfl, rfl⟩))
      go_quiet (fail)
      go_wp2_with (first | (go_at_call 160; refine (HX.out _).mono ?_; rintro e w' ⟨rfl, rfl⟩) | (go_at_call 201; refine (HN.out _).mono ?_; rintro e w' ⟨rfl, rfl⟩))
      go_ret
      rw [HR.out]
      exact ⟨rfl, below_drewN (below1 _ _) _⟩
  have c5b : ((s[3].toNat : Int) != (n : Int)) = false := by simp; omega
  by_cases c6 : n ≤ s[4].toNat
  · rcases (Decidable.not_not.1 c4) with k2 | k2
    · skip
      have HR : Hid (outR n s = 4) := by show outR n s = 4; unfold outR; rw [if_neg c1, if_neg HMt.out, HV4.out, HSA.out, if_neg c3, H2.out, if_neg c4, H3.out, if_neg c5, H4.out, if_pos c6]
      have c6b : (n : Int) ≤ (s[4].toNat : Int) := by omega
      have k2b : ((s[2].toNat : Int) != 1) = false := by rw [k2]; rfl
      have k2c : ((s[2].toNat : Int) != 2) = true := by rw [k2]; rfl
      have k2d : ((s[2].toNat : Int) == 1) = true := by rw [k2]; rfl
      have k2e : ((s[2].toNat : Int) == 2) = false := by rw [k2]; rfl
      clear c3 c4 c5 c6 k2
      go_enter Tryz.func199, Tryz.ntmps199
      go_wp2_with (first | (go_at_call 160; refine (HX.out _).mono ?_; rintro e w' ⟨rfl, rfl⟩) | (go_at_call 201; refine (HN.out _).mono ?_; rintro e w' ⟨rfl, rfl⟩))
      go_quiet (fail)
      go_wp2_with (first | (go_at_call 160; refine (HX.out _).mono ?_; rintro e w' ⟨rfl, rfl⟩) | (go_at_call 201; refine (HN.out _).mono ?_; rintro e w' ⟨rfl, rfl⟩))
      go_quiet (fail)
      go_wp2_with (first | (go_at_call 160; refine (HX.out _).mono ?_; rintro e w' ⟨rfl, rfl⟩) | (go_at_call 201; refine (HN.out _).mono ?_; rintro e w' ⟨rfl, rfl⟩))
      go_ret
      rw [HR.out]
      exact ⟨rfl, by first | exact below_drewN (below1 _ _) _ | exact below_drewN (below_drewN (below1 _ _) _) _⟩
    · skip
      have HR : Hid (outR n s = 4) := by show outR n s = 4; unfold outR; rw [if_neg c1, if_neg HMt.out, HV4.out, HSA.out, if_neg c3, H2.out, if_neg c4, H3.out, if_neg c5, H4.out, if_pos c6]
      have c6b : (n : Int) ≤ (s[4].toNat : Int) := by omega
      have k2b : ((s[2].toNat : Int) != 1) = true := by rw [k2]; rfl
      have k2c : ((s[2].toNat : Int) != 2) = false := by rw [k2]; rfl
      have k2d : ((s[2].toNat : Int) == 1) = false := by rw [k2]; rfl
      have k2e : ((s[2].toNat : Int) == 2) = true := by rw [k2]; rfl
      clear c3 c4 c5 c6 k2
      go_enter Tryz.func199, Tryz.ntmps199
      go_wp2_with (first | (go_at_call 160; refine (HX.out _).mono ?_; rintro e w' ⟨rfl, rfl⟩) | (go_at_call 201; refine (HN.out _).mono ?_; rintro e w' ⟨rfl, rfl⟩))
      go_quiet (fail)
      go_wp2_with (first | (go_at_call 160; refine (HX.out _).mono ?_; rintro e w' ⟨rfl, rfl⟩) | (go_at_call 201; refine (HN.out _).mono ?_; rintro e w' ⟨rfl, rfl⟩))
      go_quiet (fail)
      go_wp2_with (first | (go_at_call 160; refine (HX.out _).mono ?_; rintro e w' ⟨rfl, rfl⟩) | (go_at_call 201; refine (HN.out _).mono ?_; rintro e w' ⟨rfl, rfl⟩))
      go_ret
      rw [HR.out]
      exact ⟨rfl, by first | exact below_drewN (below1 _ _) _ | exact below_drewN (below_drewN (below1 _ _) _) _⟩
  have c6b : (s[4].toNat : Int) < (n : Int) := by omega
  by_cases c7 : s[2].toNat = 2 ∧ s.size ≠ 9 + 2 * n
  · rcases (Decidable.not_not.1 c4) with k2 | k2
    · omega
    · skip
      have HR : Hid (outR n s = (s.size : Int)) := by show outR n s = (s.size : Int); unfold outR; rw [if_neg c1, if_neg HMt.out, HV4.out, HSA.out, if_neg c3, H2.out, if_neg c4, H3.out, if_neg c5, H4.out, if_neg c6, if_pos c7]
      have c7b : ((s.size : Int) != 9 + 2 * (n : Int)) = true := bne_iff_ne.2 (by omega)
      have k2b : ((s[2].toNat : Int) != 1) = true := by rw [k2]; rfl
      have k2c : ((s[2].toNat : Int) != 2) = false := by rw [k2]; rfl
      have k2d : ((s[2].toNat : Int) == 1) = false := by rw [k2]; rfl
      have k2e : ((s[2].toNat : Int) == 2) = true := by rw [k2]; rfl
      clear c3 c4 c5 c6 c7 k2
      go_enter Tryz.func199, Tryz.ntmps199
      go_wp2_with (first | (go_at_call 160; refine (HX.out _).mono ?_; rintro e w' ⟨rfl, rfl⟩) | (go_at_call 201; refine (HN.out _).mono ?_; rintro e w' ⟨rfl, rfl⟩))
      go_quiet (fail)
      go_wp2_with (first | (go_at_call 160; refine (HX.out _).mono ?_; rintro e w' ⟨rfl, rfl⟩) | (go_at_call 201; refine (HN.out _).mono ?_; rintro e w' ⟨rfl, rfl⟩))
      go_quiet (fail)
      go_wp2_with (first | (go_at_call 160; refine (HX.out _).mono ?_; rintro e w' ⟨rfl, rfl⟩) | (go_at_call 201; refine (HN.out _).mono ?_; rintro e w' ⟨rfl, rfl⟩))
      go_ret
      rw [HR.out]
      exact ⟨rfl, by first | exact below_drewN (below1 _ _) _ | exact below_drewN (below_drewN (below1 _ _) _) _⟩
  by_cases c8 : s[2].toNat = 1 ∧ s.size < 15 + 2 * n
  · rcases (Decidable.not_not.1 c4) with k2 | k2
    · skip
      have HR : Hid (outR n s = (s.size : Int)) := by show outR n s = (s.size : Int); unfold outR; rw [if_neg c1, if_neg HMt.out, HV4.out, HSA.out, if_neg c3, H2.out, if_neg c4, H3.out, if_neg c5, H4.out, if_neg c6, if_neg c7, if_pos c8]
      have c8b : (s.size : Int) < 15 + 2 * (n : Int) := by omega
      have k2b : ((s[2].toNat : Int) != 1) = false := by rw [k2]; rfl
      have k2c : ((s[2].toNat : Int) != 2) = true := by rw [k2]; rfl
      have k2d : ((s[2].toNat : Int) == 1) = true := by rw [k2]; rfl
      have k2e : ((s[2].toNat : Int) == 2) = false := by rw [k2]; rfl
      clear c3 c4 c5 c6 c7 c8 k2
      go_enter Tryz.func199, Tryz.ntmps199
      go_wp2_with (first | (go_at_call 160; refine (HX.out _).mono ?_; rintro e w' ⟨rfl, rfl⟩) | (go_at_call 201; refine (HN.out _).mono ?_; rintro e w' ⟨rfl, rfl⟩))
      go_quiet (fail)
      go_wp2_with (first | (go_at_call 160; refine (HX.out _).mono ?_; rintro e w' ⟨rfl, rfl⟩) | (go_at_call 201; refine (HN.out _).mono ?_; rintro e w' ⟨rfl, rfl⟩))
      go_quiet (fail)
      go_wp2_with (first | (go_at_call 160; refine (HX.out _).mono ?_; rintro e w' ⟨rfl, rfl⟩) | (go_at_call 201; refine (HN.out _).mono ?_; rintro e w' ⟨rfl, rfl⟩))
      go_ret
      rw [HR.out]
      exact ⟨rfl, by first | exact below_drewN (below1 _ _) _ | exact below_drewN (below_drewN (below1 _ _) _) _⟩
    · omega
  rcases (Decidable.not_not.1 c4) with k2 | k2
  · skip
    have HR : Hid (outR n s = -1) := by show outR n s = -1; unfold outR; rw [if_neg c1, if_neg HMt.out, HV4.out, HSA.out, if_neg c3, H2.out, if_neg c4, H3.out, if_neg c5, H4.out, if_neg c6, if_neg c7, if_neg c8]
    have c8b : (15 : Int) + 2 * (n : Int) ≤ (s.size : Int) := by omega
    have k2b : ((s[2].toNat : Int) != 1) = false := by rw [k2]; rfl
    have k2c : ((s[2].toNat : Int) != 2) = true := by rw [k2]; rfl
    have k2d : ((s[2].toNat : Int) == 1) = true := by rw [k2]; rfl
    have k2e : ((s[2].toNat : Int) == 2) = false := by rw [k2]; rfl
    clear c3 c4 c5 c6 c7 c8 k2
    go_enter Tryz.func199, Tryz.ntmps199
    go_wp2_with (first | (go_at_call 160; refine (HX.out _).mono ?_; rintro e w' ⟨rfl, rfl⟩) | (go_at_call 201; refine (HN.out _).mono ?_; rintro e w' ⟨rfl, rfl⟩))
    go_quiet (fail)
    go_wp2_with (first | (go_at_call 160; refine (HX.out _).mono ?_; rintro e w' ⟨rfl, rfl⟩) | (go_at_call 201; refine (HN.out _).mono ?_; rintro e w' ⟨rfl, rfl⟩))
    go_quiet (fail)
    go_wp2_with (first | (go_at_call 160; refine (HX.out _).mono ?_; rintro e w' ⟨rfl, rfl⟩) | (go_at_call 201; refine (HN.out _).mono ?_; rintro e w' ⟨rfl, rfl⟩))
    go_ret
    rw [HR.out]
    exact ⟨rfl, by first | exact below_drewN (below1 _ _) _ | exact below_drewN (below_drewN (below1 _ _) _) _⟩
  · skip
    have HR : Hid (outR n s = -1) := by show outR n s = -1; unfold outR; rw [if_neg c1, if_neg HMt.out, HV4.out, HSA.out, if_neg c3, H2.out, if_neg c4, H3.out, if_neg c5, H4.out, if_neg c6, if_neg c7, if_neg c8]
    have c7b : ((s.size : Int) != 9 + 2 * (n : Int)) = false := by simp; omega
    have k2b : ((s[2].toNat : Int) != 1) = true := by rw [k2]; rfl
    have k2c : ((s[2].toNat : Int) != 2) = false := by rw [k2]; rfl
    have k2d : ((s[2].toNat : Int) == 1) = false := by rw [k2]; rfl
    have k2e : ((s[2].toNat : Int) == 2) = true := by rw [k2]; rfl
    clear c3 c4 c5 c6 c7 c8 k2
    go_enter Tryz.func199, Tryz.ntmps199
    go_wp2_with (first | (go_at_call 160; refine (HX.out _).mono ?_; rintro e w' ⟨rfl, rfl⟩) | (go_at_call 201; refine (HN.out _).mono ?_; rintro e w' ⟨rfl, rfl⟩))
    go_quiet (fail)
    go_wp2_with (first | (go_at_call 160; refine (HX.out _).mono ?_; rintro e w' ⟨rfl, rfl⟩) | (go_at_call 201; refine (HN.out _).mono ?_; rintro e w' ⟨rfl, rfl⟩))
    go_quiet (fail)
    go_wp2_with (first | (go_at_call 160; refine (HX.out _).mono ?_; rintro e w' ⟨rfl, rfl⟩) | (go_at_call 201; refine (HN.out _).mono ?_; rintro e w' ⟨rfl, rfl⟩))
    go_ret
    rw [HR.out]
    exact ⟨rfl, by first | exact below_drewN (below1 _ _) _ | exact below_drewN (below_drewN (below1 _ _) _) _⟩
end Go.Proofs.YtabecbjfamphbaaGreatDoor
