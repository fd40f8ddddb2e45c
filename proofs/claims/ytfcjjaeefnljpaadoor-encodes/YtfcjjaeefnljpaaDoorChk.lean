/-
  The walks of the group's check, the program's and the reference's, and of 'number', which asks an error for its number.
-/
import Derived.Test.YtfcjjaeefnljpaaDoorErrs
import Derived.Test.YtfcjjaeefnljpaaDoorSumA
import Derived.Deep.RegionWith
namespace Go.Proofs.YtfcjjaeefnljpaaDoor
open Go.RowKit Go.Stop Go.Extern

/-- What the walks ask of the two sentinels in a world. -/
structure Sent (w : World) (a0 a1 : Addr) : Prop where
  c0 : w.cell? ⟨0, 0, none⟩ = some (.iface 137 (.pointer (some a0)))
  c1 : w.cell? ⟨1, 0, none⟩ = some (.iface 137 (.pointer (some a1)))
  ne : a0 ≠ a1
  b0 : ∃ ca ta, w.heap[a0.block]? = some (.cells ca ta (0, 0))
  b1 : ∃ ca ta, w.heap[a1.block]? = some (.cells ca ta (0, 0))
theorem lt_of_some {w : World} {k : Nat} {o : Obj} (h : w.heap[k]? = some o) : k < w.heap.size := by
  rcases Nat.lt_or_ge k w.heap.size with h' | h'
  · exact h'
  · simp [Array.getElem?_eq_none h'] at h
theorem lt_of_cell {w : World} {b o : Nat} {v : Value} (h : w.cell? ⟨b, o, none⟩ = some v) : b < w.heap.size := by
  rcases Nat.lt_or_ge b w.heap.size with h' | h'
  · exact h'
  · simp [World.cell?, Array.getElem?_eq_none h'] at h
theorem Sent.below {w w' : World} {a0 a1 : Addr} (h : Sent w a0 a1) (hb : Below w.heap.size w w') : Sent w' a0 a1 := by
  obtain ⟨c0, t0, e0⟩ := h.b0
  obtain ⟨c1, t1, e1⟩ := h.b1
  exact ⟨(hb.cell (lt_of_cell h.c0)).trans h.c0, (hb.cell (lt_of_cell h.c1)).trans h.c1, h.ne, ⟨c0, t0, (hb.block _ (lt_of_some e0)).trans e0⟩, ⟨c1, t1, (hb.block _ (lt_of_some e1)).trans e1⟩⟩
theorem Sent.alloc {w : World} {a0 a1 : Addr} (h : Sent w a0 a1) (o : Obj) : Sent (w.alloc o) a0 a1 := h.below ((Below.refl _ _).alloc (Nat.le_refl _) _)
theorem Sent.drew {w : World} {a0 a1 : Addr} (h : Sent w a0 a1) : Sent w.drew a0 a1 := h.below (Below.refl _ _).drew

/-- The errors that the program makes, and the number of each. -/
structure IsErr (a0 a1 : Addr) (e : Value) (n : Int) : Prop where
  how : (e = .nilIface ∧ n = 0) ∨ (∃ s, e = .iface 117 (.agg #[.string s, .iface 137 (.pointer (some a0))]) ∧ n = 1)
    ∨ (∃ s, e = .iface 117 (.agg #[.string s, .iface 137 (.pointer (some a1))]) ∧ n = 5)
    ∨ (∃ p s, e = .iface 91 (.agg #[.int .i64 p, .iface 117 (.agg #[.string s, .iface 137 (.pointer (some a1))])]) ∧ n = 5)

set_option maxHeartbeats 400000 in
theorem number_any (a0 a1 : Addr) (e : Value) (n : Int) (he : IsErr a0 a1 e n) (w : World) (hw : Sent w a0 a1) :
    Calls Tryd.prog 34 #[e] w fun e w' => e = .returned (.int .i64 n) ∧ Below w.heap.size w w' := by
  have c0 := hw.c0
  obtain ⟨ca, ta, b0⟩ := hw.b0
  obtain ⟨cb, tb, b1⟩ := hw.b1
  have hne := hw.ne
  have HW : Hid (Sent w a0 a1) := hw
  clear hw
  rcases he.how with ⟨rfl, rfl⟩ | ⟨s, rfl, rfl⟩ | ⟨s, rfl, rfl⟩ | ⟨p, s, rfl, rfl⟩
  · have c1 := HW.out.c1
    clear he b0 b1
    go_enter Tryd.func34, Tryd.ntmps34
    go_wp2_with (go_at_call 50; refine (is_nil _ _).mono ?_; rintro e w' ⟨rfl, rfl⟩)
    go_ret
    exact ⟨rfl, Below.refl _ _⟩
  · clear he b0 b1
    go_enter Tryd.func34, Tryd.ntmps34
    go_wp2_with (go_at_call 50; refine (is_why_same _ _ _).mono ?_; rintro e w' ⟨rfl, hb⟩)
    go_ret
    exact ⟨rfl, hb⟩
  · clear he
    go_enter Tryd.func34, Tryd.ntmps34
    go_wp2_with fail
    refine (is_why_other s a1 a0 w hne.symm b1 b0).mono ?_
    rintro e w' ⟨rfl, hb⟩
    have c1 := (HW.out.below hb).c1
    go_wp2_with fail
    refine (is_why_same s a1 w').mono ?_
    rintro e w2 ⟨rfl, hb2⟩
    go_wp2
    go_ret
    exact ⟨rfl, hb.trans (hb2.mono hb.size)⟩
  · clear he
    go_enter Tryd.func34, Tryd.ntmps34
    go_wp2_with fail
    refine (is_at_other p s a1 a0 w hne.symm b1 b0).mono ?_
    rintro e w' ⟨rfl, hb⟩
    have c1 := (HW.out.below hb).c1
    go_wp2_with fail
    refine (is_at_same p s a1 w').mono ?_
    rintro e w2 ⟨rfl, hb2⟩
    go_wp2
    go_ret
    exact ⟨rfl, hb.trans (hb2.mono hb.size)⟩

set_option maxHeartbeats 400000 in
theorem groupRefuse_any (a0 a1 : Addr) (s : ByteArray) (w : World) (hw : Sent w a0 a1) :
    Calls Tryd.prog 54 #[.string s] w fun e w' => e = .returned (.iface 117 (.agg #[.string s, .iface 137 (.pointer (some a0))])) ∧ w' = w := by
  have c0 := hw.c0
  clear hw
  go_enter Tryd.func54, Tryd.ntmps54
  go_wp2
  go_ret
  exact ⟨rfl, rfl⟩
set_option maxHeartbeats 400000 in
theorem wireRefuse_any (a0 a1 : Addr) (s : ByteArray) (w : World) (hw : Sent w a0 a1) :
    Calls Tryd.prog 74 #[.string s] w fun e w' => e = .returned (.iface 117 (.agg #[.string s, .iface 137 (.pointer (some a1))])) ∧ w' = w := by
  have c1 := hw.c1
  clear hw
  go_enter Tryd.func74, Tryd.ntmps74
  go_wp2
  go_ret
  exact ⟨rfl, rfl⟩
set_option maxHeartbeats 400000 in
theorem refuseAt_any (a0 a1 : Addr) (p : Int) (s : ByteArray) (w : World) (hw : Sent w a0 a1) :
    Calls Tryd.prog 64 #[.int .i64 p, .string s] w fun e w' => e = .returned (.iface 91 (.agg #[.int .i64 p, .iface 117 (.agg #[.string s, .iface 137 (.pointer (some a1))])])) ∧ w' = w := by
  have HW : Hid (Sent w a0 a1) := hw
  clear hw
  go_enter Tryd.func64, Tryd.ntmps64
  go_wp2_with (go_at_call 74; refine (wireRefuse_any a0 a1 _ _ HW.out).mono ?_; rintro e w' ⟨rfl, rfl⟩)
  go_ret
  exact ⟨rfl, rfl⟩
end Go.Proofs.YtfcjjaeefnljpaaDoor
