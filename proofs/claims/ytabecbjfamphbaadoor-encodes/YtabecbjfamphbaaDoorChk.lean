/-
  The walks of the group's check, the program's and the reference's, and of 'number', which asks an error for its number.
-/
import Derived.Test.YtabecbjfamphbaaDoorErrs
import Derived.Test.YtabecbjfamphbaaDoorSumA
import Derived.Deep.RegionWith
namespace Go.Proofs.YtabecbjfamphbaaDoor
open Go.RowKit Go.Stop Go.Extern

/-- The variable that holds the sentinel of each number. -/
def gOf : Nat → Nat
  | 1 => 0
  | 2 => 1
  | 3 => 2
  | 4 => 3
  | 5 => 4
  | 6 => 5
  | 7 => 6
  | _ => 7
/-- What the walks ask of the eight sentinels in a world. -/
structure Sents (w : World) (A : Nat → Addr) : Prop where
  c : ∀ k, 1 ≤ k → k ≤ 8 → w.cell? ⟨gOf k, 0, none⟩ = some (.iface 137 (.pointer (some (A k))))
  ne : ∀ i j, 1 ≤ i → i ≤ 8 → 1 ≤ j → j ≤ 8 → i ≠ j → A i ≠ A j
  b : ∀ k, 1 ≤ k → k ≤ 8 → ∃ ca ta, w.heap[(A k).block]? = some (.cells ca ta (0, 0))
/-- .. as the walks of the frames ask it: that of arguments and that of frames by name. -/
structure Sent (w : World) (a0 a1 : Addr) : Prop where
  all : ∃ A, Sents w A ∧ A 1 = a0 ∧ A 5 = a1
theorem lt_of_some {w : World} {k : Nat} {o : Obj} (h : w.heap[k]? = some o) : k < w.heap.size := by
  rcases Nat.lt_or_ge k w.heap.size with h' | h'
  · exact h'
  · simp [Array.getElem?_eq_none h'] at h
theorem lt_of_cell {w : World} {b o : Nat} {v : Value} (h : w.cell? ⟨b, o, none⟩ = some v) : b < w.heap.size := by
  rcases Nat.lt_or_ge b w.heap.size with h' | h'
  · exact h'
  · simp [World.cell?, Array.getElem?_eq_none h'] at h
theorem Sents.below {w w' : World} {A : Nat → Addr} (h : Sents w A) (hb : Below w.heap.size w w') : Sents w' A :=
  ⟨fun k h1 h8 => (hb.cell (lt_of_cell (h.c k h1 h8))).trans (h.c k h1 h8), h.ne, fun k h1 h8 => by
    obtain ⟨c0, t0, e0⟩ := h.b k h1 h8
    exact ⟨c0, t0, (hb.block _ (lt_of_some e0)).trans e0⟩⟩
theorem Sent.below {w w' : World} {a0 a1 : Addr} (h : Sent w a0 a1) (hb : Below w.heap.size w w') : Sent w' a0 a1 := by
  obtain ⟨A, hA, e0, e1⟩ := h.all
  exact ⟨⟨A, hA.below hb, e0, e1⟩⟩
theorem Sent.c0 {w : World} {a0 a1 : Addr} (h : Sent w a0 a1) : w.cell? ⟨0, 0, none⟩ = some (.iface 137 (.pointer (some a0))) := by
  obtain ⟨A, hA, e0, e1⟩ := h.all
  rw [← e0]; exact hA.c 1 (by omega) (by omega)
theorem Sent.c1 {w : World} {a0 a1 : Addr} (h : Sent w a0 a1) : w.cell? ⟨4, 0, none⟩ = some (.iface 137 (.pointer (some a1))) := by
  obtain ⟨A, hA, e0, e1⟩ := h.all
  rw [← e1]; exact hA.c 5 (by omega) (by omega)
theorem Sent.alloc {w : World} {a0 a1 : Addr} (h : Sent w a0 a1) (o : Obj) : Sent (w.alloc o) a0 a1 := h.below ((Below.refl _ _).alloc (Nat.le_refl _) _)
theorem Sent.drew {w : World} {a0 a1 : Addr} (h : Sent w a0 a1) : Sent w.drew a0 a1 := h.below (Below.refl _ _).drew

theorem bthen {w w1 w2 : World} (h : Below w.heap.size w w1) (k : Below w1.heap.size w1 w2) : Below w.heap.size w w2 := h.trans (k.mono h.size)
/-- The errors that the program makes, and the number of each. -/
structure IsErrA (A : Nat → Addr) (e : Value) (k : Nat) : Prop where
  how : (e = .nilIface ∧ k = 0) ∨ (1 ≤ k ∧ k ≤ 8 ∧ ∃ s, e = .iface 117 (.agg #[.string s, .iface 137 (.pointer (some (A k)))]))
    ∨ (1 ≤ k ∧ k ≤ 8 ∧ ∃ p s, e = .iface 91 (.agg #[.int .i64 p, .iface 117 (.agg #[.string s, .iface 137 (.pointer (some (A k)))])]))
structure IsErr (a0 a1 : Addr) (e : Value) (n : Int) : Prop where
  how : (e = .nilIface ∧ n = 0) ∨ (∃ s, e = .iface 117 (.agg #[.string s, .iface 137 (.pointer (some a0))]) ∧ n = 1)
    ∨ (∃ s, e = .iface 117 (.agg #[.string s, .iface 137 (.pointer (some a1))]) ∧ n = 5)
    ∨ (∃ p s, e = .iface 91 (.agg #[.int .i64 p, .iface 117 (.agg #[.string s, .iface 137 (.pointer (some a1))])]) ∧ n = 5)

/-- errors.Is over an error that the program made: it is that of its own number alone. -/
theorem is_any {A : Nat → Addr} {e : Value} {k : Nat} (he : IsErrA A e k) (j : Nat) (h1 : 1 ≤ j) (h8 : j ≤ 8) (w : World) (hw : Sents w A) :
    Calls Tryd.prog 50 #[e, .iface 137 (.pointer (some (A j)))] w fun r w' => r = .returned (.bool (decide (j = k))) ∧ Below w.heap.size w w' := by
  rcases he.how with ⟨rfl, rfl⟩ | ⟨k1, k8, s, rfl⟩ | ⟨k1, k8, p, s, rfl⟩
  · refine (is_nil _ _).mono ?_
    rintro r w' ⟨rfl, rfl⟩
    exact ⟨by rw [decide_eq_false (by omega)], Below.refl _ _⟩
  · by_cases hjk : j = k
    · subst hjk
      refine (is_why_same s (A j) w).mono ?_
      rintro r w' ⟨rfl, hb⟩
      exact ⟨by simp, hb⟩
    · obtain ⟨ca, ta, hb0⟩ := hw.b k k1 k8
      obtain ⟨cb, tb, hb1⟩ := hw.b j h1 h8
      refine (is_why_other s (A k) (A j) w (hw.ne k j k1 k8 h1 h8 (Ne.symm hjk)) hb0 hb1).mono ?_
      rintro r w' ⟨rfl, hb⟩
      exact ⟨by rw [decide_eq_false hjk], hb⟩
  · by_cases hjk : j = k
    · subst hjk
      refine (is_at_same p s (A j) w).mono ?_
      rintro r w' ⟨rfl, hb⟩
      exact ⟨by simp, hb⟩
    · obtain ⟨ca, ta, hb0⟩ := hw.b k k1 k8
      obtain ⟨cb, tb, hb1⟩ := hw.b j h1 h8
      refine (is_at_other p s (A k) (A j) w (hw.ne k j k1 k8 h1 h8 (Ne.symm hjk)) hb0 hb1).mono ?_
      rintro r w' ⟨rfl, hb⟩
      exact ⟨by rw [decide_eq_false hjk], hb⟩
theorem IsErrA.le {A : Nat → Addr} {e : Value} {k : Nat} (h : IsErrA A e k) : k ≤ 8 := by
  rcases h.how with ⟨_, rfl⟩ | ⟨_, h, _⟩ | ⟨_, h, _⟩ <;> omega

set_option maxRecDepth 100000 in
set_option maxHeartbeats 1000000 in
theorem numberA_any (A : Nat → Addr) (e : Value) (k : Nat) (he : IsErrA A e k) (w : World) (hw : Sents w A) :
    Calls Tryd.prog 34 #[e] w fun r w' => r = .returned (.int .i64 (k : Int)) ∧ Below w.heap.size w w' := by
  have HI : Hid (∀ j, 1 ≤ j → j ≤ 8 → j ≠ k → ∀ w, Sents w A → Calls Tryd.prog 50 #[e, .iface 137 (.pointer (some (A j)))] w fun r w' => r = .returned (.bool false) ∧ Below w.heap.size w w') := fun j h1 h8 hjk w hw => by
    have := is_any he j h1 h8 w hw
    rw [decide_eq_false hjk] at this
    exact this
  have HY : Hid (1 ≤ k → k ≤ 8 → ∀ w, Sents w A → Calls Tryd.prog 50 #[e, .iface 137 (.pointer (some (A k)))] w fun r w' => r = .returned (.bool true) ∧ Below w.heap.size w w') := fun h1 h8 w hw => by
    have := is_any he k h1 h8 w hw
    rw [decide_eq_true rfl] at this
    exact this
  have hk8 := he.le
  have HW : Hid (Sents w A) := hw
  have HB : Hid (Below w.heap.size w w) := Below.refl _ _
  have c1 := hw.c 1 (by omega) (by omega)
  have hk : k = 0 ∨ k = 1 ∨ k = 2 ∨ k = 3 ∨ k = 4 ∨ k = 5 ∨ k = 6 ∨ k = 7 ∨ k = 8 := by omega
  unfold gOf at c1
  clear he hw hk8
  rcases hk with rfl | rfl | rfl | rfl | rfl | rfl | rfl | rfl | rfl
  all_goals
    go_enter Tryd.func34, Tryd.ntmps34
    go_wp2_with (go_at_call 50; first
      | (refine (HI.out _ (by decide) (by decide) (by decide) _ HW.out).mono ?_; rintro r wn ⟨rfl, hb⟩; have hw := HW.out.below hb; have HB1 : Hid _ := bthen HB.out hb; clear HB; have HB : Hid _ := HB1.out; clear HB1; have HW1 : Hid _ := hw; clear HW; have HW : Hid _ := HW1.out; clear HW1 hb c1; have c1 := hw.c 1 (by omega) (by omega); have c2 := hw.c 2 (by omega) (by omega); have c3 := hw.c 3 (by omega) (by omega); have c4 := hw.c 4 (by omega) (by omega); have c5 := hw.c 5 (by omega) (by omega); have c6 := hw.c 6 (by omega) (by omega); have c7 := hw.c 7 (by omega) (by omega); have c8 := hw.c 8 (by omega) (by omega); unfold gOf at c1 c2 c3 c4 c5 c6 c7 c8; clear hw)
      | (refine (HY.out (by decide) (by decide) _ HW.out).mono ?_; rintro r wn ⟨rfl, hb⟩; have HB1 : Hid _ := bthen HB.out hb; clear HB; have HB : Hid _ := HB1.out; clear HB1 hb c1))
    go_ret
    exact ⟨rfl, HB.out⟩

theorem number_any (a0 a1 : Addr) (e : Value) (n : Int) (he : IsErr a0 a1 e n) (w : World) (hw : Sent w a0 a1) :
    Calls Tryd.prog 34 #[e] w fun e w' => e = .returned (.int .i64 n) ∧ Below w.heap.size w w' := by
  obtain ⟨A, hA, rfl, rfl⟩ := hw.all
  rcases he.how with ⟨rfl, rfl⟩ | ⟨s, rfl, rfl⟩ | ⟨s, rfl, rfl⟩ | ⟨p, s, rfl, rfl⟩
  · exact numberA_any A _ 0 ⟨Or.inl ⟨rfl, rfl⟩⟩ w hA
  · exact numberA_any A _ 1 ⟨Or.inr (Or.inl ⟨by omega, by omega, s, rfl⟩)⟩ w hA
  · exact numberA_any A _ 5 ⟨Or.inr (Or.inl ⟨by omega, by omega, s, rfl⟩)⟩ w hA
  · exact numberA_any A _ 5 ⟨Or.inr (Or.inr ⟨by omega, by omega, p, s, rfl⟩)⟩ w hA

set_option maxHeartbeats 400000 in
theorem groupRefuse_any (a0 a1 : Addr) (s : ByteArray) (w : World) (hw : Sent w a0 a1) :
    Calls Tryd.prog 54 #[.string s] w fun e w' => e = .returned (.iface 117 (.agg #[.string s, .iface 137 (.pointer (some a0))])) ∧ w' = w := by
  have c0 := hw.c0
  clear hw
  go_enter Tryd.func54, Tryd.ntmps54
  go_wp2
  go_ret
  exact ⟨rfl, rfl⟩
set_option maxHeartbeats 400000 in
theorem wireRefuse_any (a0 a1 : Addr) (s : ByteArray) (w : World) (hw : Sent w a0 a1) :
    Calls Tryd.prog 74 #[.string s] w fun e w' => e = .returned (.iface 117 (.agg #[.string s, .iface 137 (.pointer (some a1))])) ∧ w' = w := by
  have c1 := hw.c1
  clear hw
  go_enter Tryd.func74, Tryd.ntmps74
  go_wp2
  go_ret
  exact ⟨rfl, rfl⟩
set_option maxHeartbeats 400000 in
theorem refuseAt_any (a0 a1 : Addr) (p : Int) (s : ByteArray) (w : World) (hw : Sent w a0 a1) :
    Calls Tryd.prog 64 #[.int .i64 p, .string s] w fun e w' => e = .returned (.iface 91 (.agg #[.int .i64 p, .iface 117 (.agg #[.string s, .iface 137 (.pointer (some a1))])])) ∧ w' = w := by
  have HW : Hid (Sent w a0 a1) := hw
  clear hw
  go_enter Tryd.func64, Tryd.ntmps64
  go_wp2_with (go_at_call 74; refine (wireRefuse_any a0 a1 _ _ HW.out).mono ?_; rintro e w' ⟨rfl, rfl⟩)
  go_ret
  exact ⟨rfl, rfl⟩
end Go.Proofs.YtabecbjfamphbaaDoor
