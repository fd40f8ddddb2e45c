/-
  Texts that the proofs of this seat share, joined: Chk2.
-/
import Derived.Test.YtabecbjfamphbaaGreatDoorB01
/- The walks of Check (the program's inner one, its face, the reference's), of the face's Sum, and of the law's part 'sums'. -/
namespace Go.Proofs.YtabecbjfamphbaaGreatDoor
open Go.RowKit Go.Stop Go.Extern

/-- P3: may there be such a group? -/
def okG (N W B L : Int) : Bool := decide (2 ≤ N ∧ N ≤ 8 ∧ 1 ≤ W ∧ W ≤ 8 ∧ 0 ≤ B ∧ B ≤ 40 ∧ 1 ≤ L ∧ L ≤ 65535)
theorem okG_iff {N W B L : Int} : okG N W B L = true ↔ (2 ≤ N ∧ N ≤ 8 ∧ 1 ≤ W ∧ W ≤ 8 ∧ 0 ≤ B ∧ B ≤ 40 ∧ 1 ≤ L ∧ L ≤ 65535) := by simp [okG]
theorem okG_no {N W B L : Int} : okG N W B L = false ↔ ¬ (2 ≤ N ∧ N ≤ 8 ∧ 1 ≤ W ∧ W ≤ 8 ∧ 0 ≤ B ∧ B ≤ 40 ∧ 1 ≤ L ∧ L ≤ 65535) := by simp [okG]

set_option maxHeartbeats 800000 in
theorem groupCheck_yes (N W B L : Int) (w : World) (h : okG N W B L = true) :
    Calls Tryz.prog 88 #[.agg #[.int .i64 N, .int .i64 W, .int .i64 B, .int .i64 L]] w fun e w' => e = .returned .nilIface ∧ Below w.heap.size w w' := by
  obtain ⟨h1, h2, h3, h4, h5, h6, h7, h8⟩ := okG_iff.1 h
  clear h
  go_enter Tryz.func88, Tryz.ntmps88
  go_wp2
  go_ret
  exact ⟨rfl, (Below.refl _ _).alloc (Nat.le_refl _) _⟩

set_option maxHeartbeats 1600000 in
theorem groupCheck_no (a0 a1 : Addr) (N W B L : Int) (w : World) (hw : Sent w a0 a1) (h : okG N W B L = false) :
    Calls Tryz.prog 88 #[.agg #[.int .i64 N, .int .i64 W, .int .i64 B, .int .i64 L]] w fun e w' => (∃ s, e = .returned (.iface 208 (.agg #[.string s, .iface 298 (.pointer (some a0))]))) ∧ Below w.heap.size w w' := by
  have h' := okG_no.1 h
  clear h
  have HW : Hid (Sent w a0 a1) := hw
  clear hw
  by_cases h1 : N < 2
  · clear h'
    go_enter Tryz.func88, Tryz.ntmps88
    go_wp2_with (go_at_call 144; refine (groupRefuse_any a0 a1 _ _ (HW.out.alloc _)).mono ?_; rintro e w' ⟨rfl, rfl⟩)
    go_ret
    exact ⟨⟨_, rfl⟩, (Below.refl _ _).alloc (Nat.le_refl _) _⟩
  by_cases h2 : 8 < N
  · clear h'
    go_enter Tryz.func88, Tryz.ntmps88
    go_wp2_with (go_at_call 144; refine (groupRefuse_any a0 a1 _ _ (HW.out.alloc _)).mono ?_; rintro e w' ⟨rfl, rfl⟩)
    go_ret
    exact ⟨⟨_, rfl⟩, (Below.refl _ _).alloc (Nat.le_refl _) _⟩
  by_cases h3 : W < 1
  · clear h'
    go_enter Tryz.func88, Tryz.ntmps88
    go_wp2_with (go_at_call 144; refine (groupRefuse_any a0 a1 _ _ (HW.out.alloc _)).mono ?_; rintro e w' ⟨rfl, rfl⟩)
    go_ret
    exact ⟨⟨_, rfl⟩, (Below.refl _ _).alloc (Nat.le_refl _) _⟩
  by_cases h4 : 8 < W
  · clear h'
    go_enter Tryz.func88, Tryz.ntmps88
    go_wp2_with (go_at_call 144; refine (groupRefuse_any a0 a1 _ _ (HW.out.alloc _)).mono ?_; rintro e w' ⟨rfl, rfl⟩)
    go_ret
    exact ⟨⟨_, rfl⟩, (Below.refl _ _).alloc (Nat.le_refl _) _⟩
  by_cases h5 : B < 0
  · clear h'
    go_enter Tryz.func88, Tryz.ntmps88
    go_wp2_with (go_at_call 144; refine (groupRefuse_any a0 a1 _ _ (HW.out.alloc _)).mono ?_; rintro e w' ⟨rfl, rfl⟩)
    go_ret
    exact ⟨⟨_, rfl⟩, (Below.refl _ _).alloc (Nat.le_refl _) _⟩
  by_cases h6 : 40 < B
  · clear h'
    go_enter Tryz.func88, Tryz.ntmps88
    go_wp2_with (go_at_call 144; refine (groupRefuse_any a0 a1 _ _ (HW.out.alloc _)).mono ?_; rintro e w' ⟨rfl, rfl⟩)
    go_ret
    exact ⟨⟨_, rfl⟩, (Below.refl _ _).alloc (Nat.le_refl _) _⟩
  have h7 : L < 1 ∨ 65535 < L := by omega
  clear h'
  rcases h7 with h7 | h7
  · go_enter Tryz.func88, Tryz.ntmps88
    go_wp2_with (go_at_call 144; refine (groupRefuse_any a0 a1 _ _ (HW.out.alloc _)).mono ?_; rintro e w' ⟨rfl, rfl⟩)
    go_ret
    exact ⟨⟨_, rfl⟩, (Below.refl _ _).alloc (Nat.le_refl _) _⟩
  · go_enter Tryz.func88, Tryz.ntmps88
    go_wp2_with (go_at_call 144; refine (groupRefuse_any a0 a1 _ _ (HW.out.alloc _)).mono ?_; rintro e w' ⟨rfl, rfl⟩)
    go_ret
    exact ⟨⟨_, rfl⟩, (Below.refl _ _).alloc (Nat.le_refl _) _⟩

/-- group.Check, in one. -/
theorem groupCheck_any (a0 a1 : Addr) (N W B L : Int) (w : World) (hw : Sent w a0 a1) :
    Calls Tryz.prog 88 #[.agg #[.int .i64 N, .int .i64 W, .int .i64 B, .int .i64 L]] w fun e w' => (∃ v, e = .returned v ∧ IsErr a0 a1 v (if okG N W B L then 0 else 1) ∧ (okG N W B L = true → v = .nilIface)) ∧ Below w.heap.size w w' := by
  by_cases h : okG N W B L = true
  · refine (groupCheck_yes N W B L w h).mono ?_
    rintro e w' ⟨rfl, hb⟩
    exact ⟨⟨_, rfl, ⟨Or.inl ⟨rfl, by rw [if_pos h]⟩⟩, fun _ => rfl⟩, hb⟩
  · refine (groupCheck_no a0 a1 N W B L w hw (by simpa using h)).mono ?_
    rintro e w' ⟨⟨s, rfl⟩, hb⟩
    exact ⟨⟨_, rfl, ⟨Or.inr (Or.inl ⟨s, rfl, by rw [if_neg h]⟩)⟩, fun h' => absurd h' h⟩, hb⟩

set_option maxHeartbeats 800000 in
theorem hCheck_any (a0 a1 : Addr) (N W B L : Int) (w : World) (hw : Sent w a0 a1) :
    Calls Tryz.prog 157 #[.agg #[.int .i64 N, .int .i64 W, .int .i64 B, .int .i64 L]] w fun e w' => e = .returned (.int .i64 (if okG N W B L then 0 else 1)) ∧ Below w.heap.size w w' := by
  have HW : Hid (Sent w a0 a1) := hw
  clear hw
  generalize hn : (if okG N W B L = true then (0 : Int) else 1) = n
  have HN : Hid ((if okG N W B L = true then (0 : Int) else 1) = n) := hn
  clear hn
  go_enter Tryz.func157, Tryz.ntmps157
  go_wp2_with fail
  refine (groupCheck_any a0 a1 N W B L _ (HW.out.alloc _)).mono ?_
  rintro e w' ⟨⟨v, rfl, hv, -⟩, hb⟩
  rw [HN.out] at hv
  have HV : Hid (IsErr a0 a1 v n) := hv
  clear hv
  have HB : Hid _ := hb
  clear hb
  go_wp2_with fail
  refine (number_any a0 a1 v n HV.out w' ((HW.out.alloc _).below HB.out)).mono ?_
  rintro e w2 ⟨rfl, hb2⟩
  have HB2 : Hid _ := hb2
  clear hb2
  go_wp2
  go_ret
  refine ⟨rfl, ?_⟩
  have hb := HB.out
  have hb2 := HB2.out
  exact ((Below.refl _ _).alloc (Nat.le_refl _) _).trans ((hb.mono (by simp)).trans (hb2.mono (by have := hb.size; simp at this; omega)))

set_option maxHeartbeats 800000 in
theorem refCheck_any (N W B L : Int) (w : World) :
    Calls Tryz.prog 158 #[.agg #[.int .i64 N, .int .i64 W, .int .i64 B, .int .i64 L]] w fun e w' => e = .returned (.int .i64 (if okG N W B L then 0 else 1)) ∧ Below w.heap.size w w' := by
  by_cases h : okG N W B L = true
  · obtain ⟨h1, h2, h3, h4, h5, h6, h7, h8⟩ := okG_iff.1 h
    rw [if_pos h]
    clear h
    go_enter Tryz.func158, Tryz.ntmps158
    go_wp2
    go_ret
    exact ⟨rfl, (Below.refl _ _).alloc (Nat.le_refl _) _⟩
  · rw [if_neg h]
    have h' := okG_no.1 (by simpa using h)
    clear h
    by_cases h1 : N < 2
    · clear h'
      go_enter Tryz.func158, Tryz.ntmps158
      go_wp2
      go_ret
      exact ⟨rfl, (Below.refl _ _).alloc (Nat.le_refl _) _⟩
    by_cases h2 : 8 < N
    · clear h'
      go_enter Tryz.func158, Tryz.ntmps158
      go_wp2
      go_ret
      exact ⟨rfl, (Below.refl _ _).alloc (Nat.le_refl _) _⟩
    by_cases h3 : W < 1
    · clear h'
      go_enter Tryz.func158, Tryz.ntmps158
      go_wp2
      go_ret
      exact ⟨rfl, (Below.refl _ _).alloc (Nat.le_refl _) _⟩
    by_cases h4 : 8 < W
    · clear h'
      go_enter Tryz.func158, Tryz.ntmps158
      go_wp2
      go_ret
      exact ⟨rfl, (Below.refl _ _).alloc (Nat.le_refl _) _⟩
    by_cases h5 : B < 0
    · clear h'
      go_enter Tryz.func158, Tryz.ntmps158
      go_wp2
      go_ret
      exact ⟨rfl, (Below.refl _ _).alloc (Nat.le_refl _) _⟩
    by_cases h6 : 40 < B
    · clear h'
      go_enter Tryz.func158, Tryz.ntmps158
      go_wp2
      go_ret
      exact ⟨rfl, (Below.refl _ _).alloc (Nat.le_refl _) _⟩
    have h7 : L < 1 ∨ 65535 < L := by omega
    clear h'
    rcases h7 with h7 | h7
    · go_enter Tryz.func158, Tryz.ntmps158
      go_wp2
      go_ret
      exact ⟨rfl, (Below.refl _ _).alloc (Nat.le_refl _) _⟩
    · go_enter Tryz.func158, Tryz.ntmps158
      go_wp2
      go_ret
      exact ⟨rfl, (Below.refl _ _).alloc (Nat.le_refl _) _⟩

set_option maxHeartbeats 400000 in
theorem hSum_any (s : ByteArray) (w : World) (hs : s.size ≤ maxLen) :
    Calls Tryz.prog 159 #[.string s] w fun e w' => e = .returned (.int .i64 (Crc.sum s.data.toList)) ∧ w' = w := by
  have HS : Hid (s.size ≤ maxLen) := hs
  clear hs
  go_enter Tryz.func159, Tryz.ntmps159
  go_wp2_with (go_at_call 183; refine (wireSum_any _ _ HS.out).mono ?_; rintro e w' ⟨rfl, rfl⟩)
  go_ret
  exact ⟨rfl, rfl⟩

set_option maxHeartbeats 400000 in
theorem num_any (n : Int) (w : World) :
    Calls Tryz.prog 107 #[.int .i64 n] w fun e w' => e = .returned (.int .i64 n) ∧ w' = w := by
  go_enter Tryz.func107, Tryz.ntmps107
  go_wp2
  go_ret
  go_show
  exact ⟨rfl, rfl⟩
end Go.Proofs.YtabecbjfamphbaaGreatDoor
