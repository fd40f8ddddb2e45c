/-
  P6: the program's place is the reference's.
-/
import Derived.Test.YtabecbjfamphbaaDoorHDec
import Derived.Test.YtabecbjfamphbaaDoorRefIn
namespace Go.Proofs.YtabecbjfamphbaaDoor
open Go.RowKit Go.Stop Go.Extern

/-- A refusal and a place that say the same. -/
def Says (r : Option (Option Int)) (p : Int) : Prop := (r = none ∧ p = -1) ∨ (r = some (some p) ∧ 0 ≤ p)
theorem rVec_eq (n : Nat) (L K O S : Int) (s : ByteArray) (p : Nat) : rVec n L K O S (vecOf s p n) = (vfirst L K O S (vecOf s p n)).map fun i => some (vAt K + 2 * (i : Int)) := by
  unfold rVec
  rw [if_pos (by rw [vecOf_length])]
theorem says_state (n : Nat) (L : Int) (s : ByteArray) (h : s.size = 9 + 2 * n) : Says (rState2 n L s) (vecR L 2 0 0 5 (vecOf s 5 n) (-1)) := by
  unfold rState2
  rw [if_pos (by omega), rVec_eq]
  unfold vecR
  cases vfirst L 2 0 0 (vecOf s 5 n) with
  | none => exact Or.inl ⟨rfl, rfl⟩
  | some i => exact Or.inr ⟨by simp [vAt], by simp; omega⟩
theorem says_data (n : Nat) (W B L : Int) (s : ByteArray) (h : 15 + 2 * n ≤ s.size) : Says (rData2 n W B L s) (inD n W B L s) := by
  unfold rData2 inD rData
  rw [if_neg (by omega)]
  have hb := byt_lt s (10 + 2 * n)
  by_cases c1 : n ≤ byt s 5
  · rw [if_pos c1, if_pos (by omega)]
    exact Or.inr ⟨rfl, by omega⟩
  rw [if_neg c1, if_neg (by omega)]
  by_cases c2 : val s 6 2 = 0 ∨ L < (val s 6 2 : Int)
  · rw [if_pos c2, if_pos (by omega)]
    exact Or.inr ⟨rfl, by omega⟩
  rw [if_neg c2, if_neg (by omega)]
  by_cases c3 : val s 6 2 ≤ val s 8 2 ∨ (val s 8 2 : Int) < (val s 6 2 : Int) - W
  · rw [if_pos c3, if_pos (by omega)]
    exact Or.inr ⟨rfl, by omega⟩
  rw [if_neg c3, if_neg (by omega), rVec_eq]
  unfold vecR
  cases vfirst L 1 (byt s 5) (val s 6 2) (vecOf s 10 n) with
  | some i => exact Or.inr ⟨by simp [vAt], by simp; omega⟩
  | none =>
    by_cases c4 : B < (byt s (10 + 2 * n) : Int) ∨ s.size ≠ 15 + 2 * n + byt s (10 + 2 * n)
    · rw [if_pos c4]
      refine Or.inr ⟨?_, show (0 : Int) ≤ 10 + 2 * (n : Int) by omega⟩
      by_cases c5 : B < ((s.size - (15 + 2 * n) : Nat) : Int)
      · rw [if_pos c5]
        rfl
      · rw [if_neg c5]
        show (if (byt s (10 + 2 * n) : Int) = ((s.size - (15 + 2 * n) : Nat) : Int) then none else some (some (10 + 2 * (n : Int)))) = _
        rw [if_neg (by omega)]
    · rw [if_neg c4]
      refine Or.inl ⟨?_, rfl⟩
      rw [if_neg (show ¬ B < ((s.size - (15 + 2 * n) : Nat) : Int) by omega)]
      show (if (byt s (10 + 2 * n) : Int) = ((s.size - (15 + 2 * n) : Nat) : Int) then none else some (some (10 + 2 * (n : Int)))) = _
      rw [if_pos (by omega)]
/-- The place that the reference finds. -/
def refAt (n : Nat) (W B L : Int) (s : ByteArray) : Int :=
  if outR n s < 0 then (if byt s 2 = 1 then inD n W B L s else vecR L 2 0 0 5 (vecOf s 5 n) (-1)) else outR n s
/-- What outer's silence tells. -/
theorem outR_neg {n : Nat} {s : ByteArray} (h : outR n s < 0) : (byt s 2 = 1 ∧ 15 + 2 * n ≤ s.size) ∨ (byt s 2 = 2 ∧ s.size = 9 + 2 * n) := by
  unfold outR at h
  split at h
  · omega
  split at h
  · omega
  split at h
  · omega
  split at h
  · omega
  split at h
  · omega
  split at h
  · omega
  split at h
  · omega
  split at h
  · omega
  · omega
theorem says_all (n : Nat) (W B L : Int) (s : ByteArray) : Says (rAll n W B L s) (refAt n W B L s) := by
  by_cases c1 : (s.size : Int) < 9 + 2 * n
  · have e : outR n s = s.size := by unfold outR; rw [if_pos c1]
    have r : rAll n W B L s = some (some (s.size : Int)) := by unfold rAll rSeal; rw [if_pos c1]
    unfold refAt
    rw [e, r, if_neg (by omega)]
    exact Or.inr ⟨rfl, by omega⟩
  by_cases c2 : marked s = false
  · have e : outR n s = 0 := by unfold outR; rw [if_neg c1, if_pos c2]
    have r : rAll n W B L s = some (some 0) := by unfold rAll rSeal; rw [if_neg c1, if_pos c2]
    unfold refAt
    rw [e, r, if_neg (by omega)]
    exact Or.inr ⟨rfl, by omega⟩
  by_cases c3 : val s (s.size - 4) 4 ≠ sumAhead s
  · have e : outR n s = (s.size : Int) - 4 := by unfold outR; rw [if_neg c1, if_neg c2, if_pos c3]
    have r : rAll n W B L s = some (some ((s.size : Int) - 4)) := by unfold rAll rSeal; rw [if_neg c1, if_neg c2, if_pos c3]
    unfold refAt
    rw [e, r, if_neg (by omega)]
    exact Or.inr ⟨rfl, by omega⟩
  have q : rAll n W B L s = rRead n W B L s := by unfold rAll rSeal; rw [if_neg c1, if_neg c2, if_neg c3]
  rw [q]
  by_cases c4 : byt s 2 = 1 ∨ byt s 2 = 2
  case neg =>
    have e : outR n s = 2 := by unfold outR; rw [if_neg c1, if_neg c2, if_neg c3, if_pos c4]
    have r : rRead n W B L s = some (some 2) := by unfold rRead rKind; rw [if_neg (by omega)]
    unfold refAt
    rw [e, r, if_neg (by omega)]
    exact Or.inr ⟨rfl, by omega⟩
  have k : rKind (byt s 2) = none := by unfold rKind; rw [if_pos (by omega)]
  by_cases c5 : byt s 3 ≠ n
  · have e : outR n s = 3 := by unfold outR; rw [if_neg c1, if_neg c2, if_neg c3, if_neg (by omega), if_pos c5]
    have r : rRead n W B L s = some (some 3) := by unfold rRead; rw [k]; show (if byt s 3 = n then _ else _) = _; rw [if_neg c5]
    unfold refAt
    rw [e, r, if_neg (by omega)]
    exact Or.inr ⟨rfl, by omega⟩
  by_cases c6 : n ≤ byt s 4
  · have e : outR n s = 4 := by unfold outR; rw [if_neg c1, if_neg c2, if_neg c3, if_neg (by omega), if_neg c5, if_pos c6]
    have r : rRead n W B L s = some (some 4) := by
      unfold rRead; rw [k]; show (if byt s 3 = n then _ else _) = _; rw [if_pos (by omega)]
      unfold rFrom; rw [if_neg (by omega)]
    unfold refAt
    rw [e, r, if_neg (by omega)]
    exact Or.inr ⟨rfl, by omega⟩
  have q2 : rRead n W B L s = if (byt s 2 : Int) = 2 then rState2 n L s else rData2 n W B L s := by
    unfold rRead; rw [k]; show (if byt s 3 = n then _ else _) = _; rw [if_pos (by omega)]
    have f : rFrom n (byt s 4) = none := by unfold rFrom; rw [if_pos (by omega)]
    rw [f]
  rw [q2]
  by_cases c7 : byt s 2 = 2 ∧ s.size ≠ 9 + 2 * n
  · have e : outR n s = s.size := by unfold outR; rw [if_neg c1, if_neg c2, if_neg c3, if_neg (by omega), if_neg c5, if_neg c6, if_pos c7]
    have r : rState2 n L s = some (some (s.size : Int)) := by unfold rState2; rw [if_neg (by omega)]
    unfold refAt
    rw [e, if_pos (by omega), r, if_neg (by omega)]
    exact Or.inr ⟨rfl, by omega⟩
  by_cases c8 : byt s 2 = 1 ∧ s.size < 15 + 2 * n
  · have e : outR n s = s.size := by unfold outR; rw [if_neg c1, if_neg c2, if_neg c3, if_neg (by omega), if_neg c5, if_neg c6, if_neg c7, if_pos c8]
    have r : rData2 n W B L s = some (some (s.size : Int)) := by unfold rData2; rw [if_pos (by omega)]
    unfold refAt
    rw [e, if_neg (by omega), r, if_neg (by omega)]
    exact Or.inr ⟨rfl, by omega⟩
  have e : outR n s = -1 := by unfold outR; rw [if_neg c1, if_neg c2, if_neg c3, if_neg (by omega), if_neg c5, if_neg c6, if_neg c7, if_neg c8]
  unfold refAt
  rw [e, if_pos (show (-1 : Int) < 0 by omega)]
  rcases c4 with c4 | c4
  · rw [if_pos c4, if_neg (by omega)]
    exact says_data n W B L s (by omega)
  · rw [if_neg (show ¬ byt s 2 = 1 by omega), if_pos (by omega)]
    exact says_state n L s (by omega)
end Go.Proofs.YtabecbjfamphbaaDoor
