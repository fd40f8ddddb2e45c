/-
  The reference's inner: P6 behind the head.
-/
import Derived.Test.YtabecbjfamphbaaDoorRefOut
import Derived.Test.YtabecbjfamphbaaDoorRVec
namespace Go.Proofs.YtabecbjfamphbaaDoor
open Go.RowKit Go.Stop Go.Extern

def vecR (L K O S : Int) (p : Nat) (vs : List Int) (k : Int) : Int :=
  match vfirst L K O S vs with
  | some i => (p : Int) + 2 * (i : Int)
  | none => k
theorem vecR_some {L K O S k : Int} {p : Nat} {vs : List Int} {i : Nat} (hi : i < vs.length) (hb : vbad L K O S i (vs.getD i 0) = true) (h : ∀ j, j < i → vbad L K O S j (vs.getD j 0) = false) : vecR L K O S p vs k = (p : Int) + 2 * (i : Int) := by
  unfold vecR vfirst
  rw [find_some hi hb h]
theorem vecR_none {L K O S k : Int} {p : Nat} {vs : List Int} (h : ∀ j, j < vs.length → vbad L K O S j (vs.getD j 0) = false) : vecR L K O S p vs k = k := by
  unfold vecR vfirst
  rw [find_none h]

set_option maxRecDepth 100000 in
set_option maxHeartbeats 2000000 in
theorem inner_state (n : Nat) (W B L : Int) (s : ByteArray) (w : World) (h1 : 2 ≤ n) (h2 : n ≤ 8) (hs : s.size ≤ maxLen) (hl : 9 + 2 * n ≤ s.size) (hk : byt s 2 = 2) :
    Calls Tryd.prog 43 #[.agg #[.int .i64 (n : Int), .int .i64 W, .int .i64 B, .int .i64 L], .string s] w fun e w' => e = .returned (.int .i64 (vecR L 2 0 0 5 (vecOf s 5 n) (-1))) ∧ Below w.heap.size w w' := by
  have HS : Hid (s.size ≤ maxLen) := hs
  unfold maxLen at hs
  have hi2 : 2 < s.size := by omega
  have hi2i : (2 : Int) < s.size := by omega
  have hb2 := s[2].toNat_lt
  rw [byt_eq s 2 hi2] at hk
  have k2d : ((s[2].toNat : Int) == 1) = false := by rw [hk]; rfl
  clear hk
  go_enter Tryd.func43, Tryd.ntmps43
  go_wp2_with fail
  go_loop [9] (fun c => ∃ k : Nat, k ≤ n ∧ c = .int .i64 k ∧ ∀ j, j < k → vbad L 2 0 0 j ((vecOf s 5 n).getD j 0) = false) (fun c => n - (intOf c).toNat)
  case atStart => exact ⟨0, Nat.zero_le _, rfl, fun j hj => absurd hj (by omega)⟩
  case round =>
    obtain ⟨k, hkn, rfl, hok⟩ := hrel
    have HOK : Hid (∀ j, j < k → vbad L 2 0 0 j ((vecOf s 5 n).getD j 0) = false) := hok
    clear hok
    by_cases hlt : k < n
    · have HX : Hid (∀ w, Calls Tryd.prog 44 #[.string s, .int .i64 ((5 : Int) + 2 * (k : Int)), .int .i64 2] w fun e w' => e = .returned (.int .i64 (val s (5 + 2 * k) 2)) ∧ w' = w) := fun w => refValue_int s ((5 : Int) + 2 * (k : Int)) 2 (5 + 2 * k) 2 (by omega) rfl w HS.out (by omega) (by omega)
      have HV : Hid ((vecOf s 5 n).getD k 0 = (val s (5 + 2 * k) 2 : Int)) := vecOf_get s 5 n k hlt
      generalize val s (5 + 2 * k) 2 = y at *
      by_cases hb : L < (y : Int)
      · have HR : Hid (vecR L 2 0 0 5 (vecOf s 5 n) (-1) = 5 + 2 * (k : Int)) := vecR_some (by rw [vecOf_length]; exact hlt) (by rw [HV.out]; unfold vbad; exact decide_eq_true (Or.inr (Or.inl hb))) HOK.out
        go_wp2_with (go_at_call 44; refine (HX.out _).mono ?_; rintro e w' ⟨rfl, rfl⟩)
        go_ret
        rw [HR.out]
        exact ⟨rfl, below1 _ _⟩
      · have HN : Hid (vbad L 2 0 0 k ((vecOf s 5 n).getD k 0) = false) := by show vbad L 2 0 0 k ((vecOf s 5 n).getD k 0) = false; rw [HV.out]; unfold vbad; exact decide_eq_false (by omega)
        have hb' : (y : Int) ≤ L := by omega
        clear hb
        go_wp2_with (go_at_call 44; refine (HX.out _).mono ?_; rintro e w' ⟨rfl, rfl⟩)
        go_round
        case rel => exact ⟨k + 1, by omega, by go_num, fun j hj => if h : j = k then h ▸ HN.out else HOK.out j (by omega)⟩
        case measure => simp [intOf]; omega
    · have hkn' : k = n := by omega
      have HR : Hid (vecR L 2 0 0 5 (vecOf s 5 n) (-1) = -1) := vecR_none (fun j hj => HOK.out j (by rw [vecOf_length] at hj; omega))
      clear hkn'
      go_wp2
      go_ret
      rw [HR.out]
      exact ⟨rfl, below1 _ _⟩
def inD (n : Nat) (W B L : Int) (s : ByteArray) : Int :=
  if n ≤ byt s 5 then 5 else if val s 6 2 = 0 ∨ L < (val s 6 2 : Int) then 6 else if val s 6 2 ≤ val s 8 2 ∨ (val s 8 2 : Int) < (val s 6 2 : Int) - W then 8 else
  vecR L 1 (byt s 5) (val s 6 2) 10 (vecOf s 10 n) (if B < (byt s (10 + 2 * n) : Int) ∨ s.size ≠ 15 + 2 * n + byt s (10 + 2 * n) then 10 + 2 * (n : Int) else -1)

set_option maxRecDepth 100000 in
set_option maxHeartbeats 4000000 in
theorem inner_data (n : Nat) (W B L : Int) (s : ByteArray) (w : World) (h1 : 2 ≤ n) (h2 : n ≤ 8) (hW1 : 1 ≤ W) (hW2 : W ≤ 8) (hs : s.size ≤ maxLen) (hl : 15 + 2 * n ≤ s.size) (hk : byt s 2 = 1) :
    Calls Tryd.prog 43 #[.agg #[.int .i64 (n : Int), .int .i64 W, .int .i64 B, .int .i64 L], .string s] w fun e w' => e = .returned (.int .i64 (inD n W B L s)) ∧ Below w.heap.size w w' := by
  have HS : Hid (s.size ≤ maxLen) := hs
  unfold maxLen at hs
  have hi2 : 2 < s.size := by omega
  have hi2i : (2 : Int) < s.size := by omega
  have hb2 := s[2].toNat_lt
  have hi5 : 5 < s.size := by omega
  have hi5i : (5 : Int) < s.size := by omega
  have hb5 := s[5].toNat_lt
  have H5 : Hid (byt s 5 = s[5].toNat) := byt_eq s 5 hi5
  rw [byt_eq s 2 hi2] at hk
  have k2d : ((s[2].toNat : Int) == 1) = true := by rw [hk]; rfl
  clear hk
  have HX6 : Hid (∀ w, Calls Tryd.prog 44 #[.string s, .int .i64 6, .int .i64 2] w fun e w' => e = .returned (.int .i64 (val s 6 2)) ∧ w' = w) := fun w => refValue_int s 6 2 6 2 rfl rfl w HS.out (by omega) (by omega)
  have HX8 : Hid (∀ w, Calls Tryd.prog 44 #[.string s, .int .i64 8, .int .i64 2] w fun e w' => e = .returned (.int .i64 (val s 8 2)) ∧ w' = w) := fun w => refValue_int s 8 2 8 2 rfl rfl w HS.out (by omega) (by omega)
  have hv6 := val_le2 s 6
  have hv8 := val_le2 s 8
  have HI : Hid (inD n W B L s = if n ≤ byt s 5 then 5 else if val s 6 2 = 0 ∨ L < (val s 6 2 : Int) then 6 else if val s 6 2 ≤ val s 8 2 ∨ (val s 8 2 : Int) < (val s 6 2 : Int) - W then 8 else
    vecR L 1 (byt s 5) (val s 6 2) 10 (vecOf s 10 n) (if B < (byt s (10 + 2 * n) : Int) ∨ s.size ≠ 15 + 2 * n + byt s (10 + 2 * n) then 10 + 2 * (n : Int) else -1)) := rfl
  rw [H5.out] at HI
  generalize val s 6 2 = q6 at *
  generalize val s 8 2 = q8 at *
  by_cases c1 : n ≤ s[5].toNat
  · have HR : Hid (inD n W B L s = 5) := HI.out.trans (if_pos c1)
    have c1b : (n : Int) ≤ (s[5].toNat : Int) := by omega
    clear c1
    go_enter Tryd.func43, Tryd.ntmps43
    go_wp2_with fail
    refine (HX6.out _).mono ?_
    rintro e w' ⟨rfl, rfl⟩
    go_wp2_with fail
    refine (HX8.out _).mono ?_
    rintro e w' ⟨rfl, rfl⟩
    go_wp2_with fail
    go_ret
    rw [HR.out]
    exact ⟨rfl, below1 _ _⟩
  have HI2 : Hid _ := HI.out.trans (if_neg c1)
  clear HI
  have c1b : (s[5].toNat : Int) < (n : Int) := by omega
  by_cases c2 : q6 = 0 ∨ L < (q6 : Int)
  · have HR : Hid (inD n W B L s = 6) := HI2.out.trans (if_pos c2)
    clear c1
    by_cases c3 : q6 = 0
    · subst c3
      go_enter Tryd.func43, Tryd.ntmps43
      go_wp2_with fail
      refine (HX6.out _).mono ?_
      rintro e w' ⟨rfl, rfl⟩
      go_wp2_with fail
      refine (HX8.out _).mono ?_
      rintro e w' ⟨rfl, rfl⟩
      go_wp2_with fail
      go_ret
      rw [HR.out]
      exact ⟨rfl, below1 _ _⟩
    · have c3b : ((q6 : Int) == 0) = false := by simp; omega
      have c3c : L < (q6 : Int) := by omega
      clear c2 c3
      go_enter Tryd.func43, Tryd.ntmps43
      go_wp2_with fail
      refine (HX6.out _).mono ?_
      rintro e w' ⟨rfl, rfl⟩
      go_wp2_with fail
      refine (HX8.out _).mono ?_
      rintro e w' ⟨rfl, rfl⟩
      go_wp2_with fail
      go_ret
      rw [HR.out]
      exact ⟨rfl, below1 _ _⟩
  have HI3 : Hid _ := HI2.out.trans (if_neg c2)
  clear HI2
  have c2b : ((q6 : Int) == 0) = false := by simp; omega
  have c2c : (q6 : Int) ≤ L := by omega
  have c2d : 1 ≤ q6 := by omega
  clear c2
  by_cases c3 : q6 ≤ q8 ∨ (q8 : Int) < (q6 : Int) - W
  · have HR : Hid (inD n W B L s = 8) := HI3.out.trans (if_pos c3)
    clear c1
    by_cases c4 : q6 ≤ q8
    · have c4b : (q6 : Int) ≤ (q8 : Int) := by omega
      clear c3 c4
      go_enter Tryd.func43, Tryd.ntmps43
      go_wp2_with fail
      refine (HX6.out _).mono ?_
      rintro e w' ⟨rfl, rfl⟩
      go_wp2_with fail
      refine (HX8.out _).mono ?_
      rintro e w' ⟨rfl, rfl⟩
      go_wp2_with fail
      go_ret
      rw [HR.out]
      exact ⟨rfl, below1 _ _⟩
    · have c4b : (q8 : Int) < (q6 : Int) := by omega
      have c4c : (q8 : Int) < (q6 : Int) - W := by omega
      clear c3 c4
      go_enter Tryd.func43, Tryd.ntmps43
      go_wp2_with fail
      refine (HX6.out _).mono ?_
      rintro e w' ⟨rfl, rfl⟩
      go_wp2_with fail
      refine (HX8.out _).mono ?_
      rintro e w' ⟨rfl, rfl⟩
      go_wp2_with fail
      go_ret
      rw [HR.out]
      exact ⟨rfl, below1 _ _⟩
  have HI4 : Hid _ := HI3.out.trans (if_neg c3)
  clear HI3
  have c3b : (q8 : Int) < (q6 : Int) := by omega
  have c3c : (q6 : Int) - W ≤ (q8 : Int) := by omega
  have c1d : decide (n ≤ s[5].toNat) = false := decide_eq_false (by omega)
  have c3d : decide (q6 ≤ q8) = false := decide_eq_false (by omega)
  have c3e : decide ((q8 : Int) < (q6 : Int) - W) = false := decide_eq_false (by omega)
  have c2e : decide (L < (q6 : Int)) = false := decide_eq_false (by omega)
  clear c3 c1
  go_enter Tryd.func43, Tryd.ntmps43
  go_wp2_with fail
  refine (HX6.out _).mono ?_
  rintro e w' ⟨rfl, rfl⟩
  go_wp2_with fail
  refine (HX8.out _).mono ?_
  rintro e w' ⟨rfl, rfl⟩
  go_wp2_with fail
  go_loop [9] (fun c => ∃ k : Nat, k ≤ n ∧ c = .int .i64 k ∧ ∀ j, j < k → vbad L 1 s[5].toNat q6 j ((vecOf s 10 n).getD j 0) = false) (fun c => n - (intOf c).toNat)
  case atStart => exact ⟨0, Nat.zero_le _, rfl, fun j hj => absurd hj (by omega)⟩
  case round =>
    obtain ⟨k, hkn, rfl, hok⟩ := hrel
    have HOK : Hid (∀ j, j < k → vbad L 1 s[5].toNat q6 j ((vecOf s 10 n).getD j 0) = false) := hok
    clear hok
    by_cases hlt : k < n
    · have HX : Hid (∀ w, Calls Tryd.prog 44 #[.string s, .int .i64 ((10 : Int) + 2 * (k : Int)), .int .i64 2] w fun e w' => e = .returned (.int .i64 (val s (10 + 2 * k) 2)) ∧ w' = w) := fun w => refValue_int s ((10 : Int) + 2 * (k : Int)) 2 (10 + 2 * k) 2 (by omega) rfl w HS.out (by omega) (by omega)
      have HV : Hid ((vecOf s 10 n).getD k 0 = (val s (10 + 2 * k) 2 : Int)) := vecOf_get s 10 n k hlt
      generalize val s (10 + 2 * k) 2 = y at *
      by_cases hbad : L < (y : Int) ∨ (k = s[5].toNat ∧ (y : Int) ≠ q6 - 1)
      · have HR : Hid (inD n W B L s = 10 + 2 * (k : Int)) := HI4.out.trans (vecR_some (by rw [vecOf_length]; exact hlt) (by rw [HV.out]; unfold vbad; exact decide_eq_true (by omega)) HOK.out)
        by_cases hb : L < (y : Int)
        · clear hbad
          go_wp2_with (go_at_call 44; refine (HX.out _).mono ?_; rintro e w' ⟨rfl, rfl⟩)
          go_ret
          rw [HR.out]
          exact ⟨rfl, below1 _ _⟩
        · have hb1 : (y : Int) ≤ L := by omega
          have hb3 : ((k : Int) == (s[5].toNat : Int)) = true := by simp; omega
          have hb4 : ((y : Int) != (q6 : Int) - 1) = true := bne_iff_ne.2 (by omega)
          clear hbad hb
          go_wp2_with (go_at_call 44; refine (HX.out _).mono ?_; rintro e w' ⟨rfl, rfl⟩)
          go_ret
          rw [HR.out]
          exact ⟨rfl, below1 _ _⟩
      · have HN : Hid (vbad L 1 s[5].toNat q6 k ((vecOf s 10 n).getD k 0) = false) := by show vbad L 1 s[5].toNat q6 k ((vecOf s 10 n).getD k 0) = false; rw [HV.out]; unfold vbad; exact decide_eq_false (by omega)
        have hb1 : (y : Int) ≤ L := by omega
        by_cases hm : k = s[5].toNat
        · have hb3 : ((k : Int) == (s[5].toNat : Int)) = true := by simp; omega
          have hb4 : ((y : Int) != (q6 : Int) - 1) = false := by simp; omega
          clear hbad hm
          go_wp2_with (go_at_call 44; refine (HX.out _).mono ?_; rintro e w' ⟨rfl, rfl⟩)
          go_round
          case rel => exact ⟨k + 1, by omega, by go_num, fun j hj => if h : j = k then h ▸ HN.out else HOK.out j (by omega)⟩
          case measure => simp [intOf]; omega
        · have hb3 : ((k : Int) == (s[5].toNat : Int)) = false := by simp; omega
          clear hbad hm
          go_wp2_with (go_at_call 44; refine (HX.out _).mono ?_; rintro e w' ⟨rfl, rfl⟩)
          go_round
          case rel => exact ⟨k + 1, by omega, by go_num, fun j hj => if h : j = k then h ▸ HN.out else HOK.out j (by omega)⟩
          case measure => simp [intOf]; omega
    · have hkn' : k = n := by omega
      have HI5 : Hid _ := HI4.out.trans (vecR_none (fun j hj => HOK.out j (by rw [vecOf_length] at hj; omega)))
      clear hkn'
      have hiz : 10 + 2 * n < s.size := by omega
      have hizi : (10 : Int) + 2 * (n : Int) < (s.size : Int) := by omega
      have hiz0 : (0 : Int) ≤ 10 + 2 * (n : Int) := by omega
      have hizt : ((10 : Int) + 2 * (n : Int)).toNat = 10 + 2 * n := by omega
      have hbz := s[10 + 2 * n].toNat_lt
      have hHZ : byt s (10 + 2 * n) = s[10 + 2 * n].toNat := byt_eq s _ hiz
      rw [hHZ] at HI5
      clear hHZ
      by_cases c9 : B < (s[10 + 2 * n].toNat : Int) ∨ s.size ≠ 15 + 2 * n + s[10 + 2 * n].toNat
      · have HR : Hid (inD n W B L s = 10 + 2 * (n : Int)) := HI5.out.trans (if_pos c9)
        by_cases c8 : B < (s[10 + 2 * n].toNat : Int)
        · clear c9
          go_wp2_with fail
          go_ret
          rw [HR.out]
          exact ⟨rfl, below1 _ _⟩
        · have c8b : (s[10 + 2 * n].toNat : Int) ≤ B := by omega
          have c8c : ((s.size : Int) != 15 + 2 * (n : Int) + (s[10 + 2 * n].toNat : Int)) = true := bne_iff_ne.2 (by omega)
          clear c9 c8
          go_wp2_with fail
          go_ret
          rw [HR.out]
          exact ⟨rfl, below1 _ _⟩
      · have HR : Hid (inD n W B L s = -1) := HI5.out.trans (if_neg c9)
        have c8b : (s[10 + 2 * n].toNat : Int) ≤ B := by omega
        have c8c : ((s.size : Int) != 15 + 2 * (n : Int) + (s[10 + 2 * n].toNat : Int)) = false := by simp; omega
        clear c9
        go_wp2_with fail
        go_ret
        rw [HR.out]
        exact ⟨rfl, below1 _ _⟩
end Go.Proofs.YtabecbjfamphbaaDoor
