/-
  checkSeal: what holds for every text that may be read further; readVector.
-/
import Derived.Test.YtabecbjfamphbaaDoorRead
import Derived.Test.YtabecbjfamphbaaDoorLent
import Derived.Deep.QuietTactic
import Derived.BigQuiet
namespace Go.Proofs.YtabecbjfamphbaaDoor
open Go.RowKit Go.Stop Go.Extern

theorem readNumber_int (s : ByteArray) (p' k' : Int) (p k : Nat) (hp' : p' = (p : Int)) (hk' : k' = (k : Int)) (w : World) (hs : s.size ≤ maxLen) (hk : k ≤ 4) (hp : p + k ≤ s.size) :
    Calls Tryd.prog 66 #[.string s, .int .i64 p', .int .i64 k'] w fun e w' => e = .returned (.int .i64 (val s p k)) ∧ w' = w := by
  subst hp' hk'
  exact readNumber_any s p k w hs hk hp
theorem refValue_int (s : ByteArray) (p' k' : Int) (p k : Nat) (hp' : p' = (p : Int)) (hk' : k' = (k : Int)) (w : World) (hs : s.size ≤ maxLen) (hk : k ≤ 4) (hp : p + k ≤ s.size) :
    Calls Tryd.prog 44 #[.string s, .int .i64 p', .int .i64 k'] w fun e w' => e = .returned (.int .i64 (val s p k)) ∧ w' = w := by
  subst hp' hk'
  exact refValue_any s p k w hs hk hp
/-- The sum of all bytes ahead of the last four. -/
def sumAhead (s : ByteArray) : Nat := Crc.sum (s.data.toList.take (s.size - 4))
theorem sumAhead_lt (s : ByteArray) : sumAhead s < 4294967296 := Crc.sum_lt _
theorem extract_take (s : ByteArray) (n : Nat) : (s.extract 0 n).data.toList = s.data.toList.take n := by
  rw [ByteArray.data_extract]
  simp
def rSeal (N : Int) (s : ByteArray) : Option (Option Int) :=
  if (s.size : Int) < 9 + 2 * N then some (some s.size) else if marked s = false then some (some 0) else if val s (s.size - 4) 4 ≠ sumAhead s then some (some ((s.size : Int) - 4)) else none

set_option maxRecDepth 100000 in
set_option maxHeartbeats 2000000 in
theorem checkSeal_any (a0 a1 : Addr) (N W B L : Int) (s : ByteArray) (w : World) (hw : Sent w a0 a1) (h1 : 2 ≤ N) (h2 : N ≤ 8) (hs : s.size ≤ maxLen) :
    Calls Tryd.prog 51 #[.agg #[.int .i64 N, .int .i64 W, .int .i64 B, .int .i64 L], .string s] w fun e w' => (∃ v, e = .returned v ∧ IsF a1 v (rSeal N s)) ∧ Below w.heap.size w w' := by
  have HW : Hid (Sent w a0 a1) := hw
  have HS : Hid (s.size ≤ maxLen) := hs
  unfold maxLen at hs
  clear hw
  go_enter Tryd.func51, Tryd.ntmps51
  go_wp2_with fail
  refine (leastState_any N W B L h1 h2 _).mono ?_
  rintro e w1 ⟨rfl, hb⟩
  have HB : Hid (Below w.heap.size w w1) := bthen (below1 _ _) hb
  clear hb
  by_cases c1 : (s.size : Int) < 9 + 2 * N
  · have HR : Hid (rSeal N s = some (some (s.size : Int))) := if_pos c1
    go_wp2_with (go_at_call 64; refine (refuseAt_any a0 a1 _ _ _ (HW.out.below HB.out)).mono ?_; rintro e w' ⟨rfl, rfl⟩)
    go_ret
    rw [HR.out]
    exact ⟨⟨_, rfl, IsF.at a1 _ _⟩, HB.out⟩
  · have hn : 13 ≤ s.size := by omega
    cases c2 : marked s with
    | false =>
      have HR : Hid (rSeal N s = some (some 0)) := by show rSeal N s = _; unfold rSeal; rw [if_neg c1, if_pos c2]
      have HM : Hid (marked s = false) := c2
      clear c2
      go_wp2_with fail
      refine (prefix_any s _ (by omega) HS.out).mono ?_
      rintro e w2 ⟨rfl, rfl⟩
      rw [HM.out]
      go_wp2_with (go_at_call 64; refine (refuseAt_any a0 a1 _ _ _ (HW.out.below HB.out)).mono ?_; rintro e w' ⟨rfl, rfl⟩)
      go_ret
      rw [HR.out]
      exact ⟨⟨_, rfl, IsF.at a1 _ _⟩, HB.out⟩
    | true =>
      have HM : Hid (marked s = true) := c2
      have HR : Hid (rSeal N s = if val s (s.size - 4) 4 ≠ sumAhead s then some (some ((s.size : Int) - 4)) else none) := by show rSeal N s = _; unfold rSeal; rw [if_neg c1, if_neg (by rw [c2]; simp)]
      clear c2
      go_wp2_with fail
      refine (prefix_any s _ (by omega) HS.out).mono ?_
      rintro e w2 ⟨rfl, rfl⟩
      rw [HM.out]
      have hi : (4 : Int) ≤ (s.size : Int) := by omega
      have HX : Hid (∀ w, Calls Tryd.prog 38 #[.string (s.extract 0 (s.size - 4))] w fun e w' => e = .returned (.int .i64 (sumAhead s)) ∧ w' = w) := fun w => by
        have := wireSum_any (s.extract 0 (s.size - 4)) w (by rw [ByteArray.size_extract]; have := HS.out; omega)
        rw [extract_take] at this
        exact this
      have HN : Hid (∀ w, Calls Tryd.prog 66 #[.string s, .int .i64 ((s.size : Int) - 4), .int .i64 4] w fun e w' => e = .returned (.int .i64 (val s (s.size - 4) 4)) ∧ w' = w) := fun w => readNumber_int s ((s.size : Int) - 4) 4 (s.size - 4) 4 (by omega) rfl w HS.out (by omega) (by omega)
      generalize val s (s.size - 4) 4 = x at *
      generalize sumAhead s = y at *
      by_cases c3 : x = y
      · subst c3
        have HRR : Hid (rSeal N s = none) := by have := HR.out; rw [if_neg (by simp)] at this; exact this
        clear HR
        go_wp2_with fail
        go_quiet ((first | (go_at_call 66; exact Calls.quiet_of_same (HN.out _)) | (go_at_call 38; exact Calls.quiet_of_same (HX.out _))))
        go_wp2
        go_ret
        rw [HRR.out]
        exact ⟨⟨_, rfl, IsF.nil a1⟩, below_drewN HB.out _⟩
      · have HRR : Hid (rSeal N s = some (some ((s.size : Int) - 4))) := by have := HR.out; rw [if_pos c3] at this; exact this
        have c3b : ((x : Int) != (y : Int)) = true := bne_iff_ne.2 (by omega)
        clear HR c3
        go_wp2_with fail
        go_quiet ((first | (go_at_call 66; exact Calls.quiet_of_same (HN.out _)) | (go_at_call 38; exact Calls.quiet_of_same (HX.out _))))
        go_wp2_with (go_at_call 64; refine (refuseAt_any a0 a1 _ _ _ (HW.out.below (below_drewN HB.out _))).mono ?_; rintro e w' ⟨rfl, rfl⟩)
        go_ret
        rw [HRR.out]
        exact ⟨⟨_, rfl, IsF.at a1 _ _⟩, below_drewN HB.out _⟩
end Go.Proofs.YtabecbjfamphbaaDoor
