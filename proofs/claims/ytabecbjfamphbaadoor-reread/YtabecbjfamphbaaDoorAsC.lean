/-
  errors.As and 'place'.
-/
import Derived.Test.YtabecbjfamphbaaDoorAsB
import Derived.Test.YtabecbjfamphbaaDoorRules2
namespace Go.Proofs.YtabecbjfamphbaaDoor
open Go.RowKit Go.Stop Go.Extern

set_option maxRecDepth 1000000 in
set_option maxHeartbeats 1600000 in
theorem as_at (g v : Nat) (p : Int) (t : TypeId) (u x y : Value) (w : World) (hv : w.cell? ⟨v, 0, none⟩ = some (.pointer (some ⟨g, 0, none⟩))) (hvl : v < w.heap.size) (hgl : g < w.heap.size) (g0 : w.cell? ⟨g, 0, none⟩ = some x) (g1 : w.cell? ⟨g, 1, none⟩ = some y) (f0 : w.frozen? ⟨g, 0, none⟩ = false) (f1 : w.frozen? ⟨g, 1, none⟩ = false) :
    Calls Tryd.prog 72 #[.iface 91 (.agg #[.int .i64 p, .iface t u]), .iface 93 (.pointer (some ⟨g, 0, none⟩)), .agg #[.pointer (some ⟨9, 93, none⟩), .pointer (some ⟨v, 0, none⟩), .int .u64 150], .iface 119 (.agg #[.pointer (some ⟨9, 91, none⟩)])] w
      fun e w' => e = .returned (.bool true) ∧ w'.cell? ⟨g, 0, none⟩ = some (.int .i64 p) ∧ Below g w w' := by
  have tA := Tryd.typeOfAt
  have mA := Tryd.methodAssignable
  have aA := Tryd.assignAt
  have vA := Tryd.valueOfAt
  obtain ⟨W, hW⟩ : ∃ W, W = ((w.alloc (.cells #[.pointer (some ⟨9, 93, none⟩), .pointer (some ⟨v, 0, none⟩), .int .u64 150] 109)).alloc (.cells #[.int .i64 p, .iface t u] 91)) := ⟨_, rfl⟩
  have hB := below2 w (.cells #[.pointer (some ⟨9, 93, none⟩), .pointer (some ⟨v, 0, none⟩), .int .u64 150] 109) (.cells #[.int .i64 p, .iface t u] 91)
  have hel := elem_run ⟨v, 0, none⟩ ⟨g, 0, none⟩ (w.alloc (.cells #[.pointer (some ⟨9, 93, none⟩), .pointer (some ⟨v, 0, none⟩), .int .u64 150] 109)) (((below1 w _).cell (p := ⟨v, 0, none⟩) hvl).trans hv)
  have hset := set_run g (w.heap.size + 1) p t u x y ((w.alloc (.cells #[.pointer (some ⟨9, 93, none⟩), .pointer (some ⟨v, 0, none⟩), .int .u64 150] 109)).alloc (.cells #[.int .i64 p, .iface t u] 91)) (by simp) (by simp) ((hB.cell (p := ⟨g, 0, none⟩) hgl).trans g0) ((hB.cell (p := ⟨g, 1, none⟩) hgl).trans g1) ((hB.frozen (p := ⟨g, 0, none⟩) hgl).trans f0) ((hB.frozen (p := ⟨g, 1, none⟩) hgl).trans f1)
  have HB : Hid _ := hB
  clear hB hW W
  go_enter Tryd.func72, Tryd.ntmps72
  go_wp2
  refine wp_loop_rounds 1 ?_
  rw [rounds_succ]
  go_wp2
  go_ret
  refine ⟨rfl, ?_, ?_⟩
  · rw [(below2 _ _ _).cell (p := ⟨g, 0, none⟩) (by simpa using hgl)]
    go_simp
  · exact ((((Below.refl g w).setCell (Nat.le_refl _) _).setCell (Nat.le_refl _) _).alloc (by simp; omega) _).alloc (by simp; omega) _

set_option maxRecDepth 1000000 in
set_option maxHeartbeats 1600000 in
theorem as_why (g v : Nat) (a : Addr) (s : ByteArray) (w : World) :
    Calls Tryd.prog 72 #[.iface 117 (.agg #[.string s, .iface 137 (.pointer (some a))]), .iface 93 (.pointer (some ⟨g, 0, none⟩)), .agg #[.pointer (some ⟨9, 93, none⟩), .pointer (some ⟨v, 0, none⟩), .int .u64 150], .iface 119 (.agg #[.pointer (some ⟨9, 91, none⟩)])] w
      fun e w' => e = .returned (.bool false) ∧ Below w.heap.size w w' := by
  have tW := Tryd.typeOfWhy
  have tE := Tryd.isTypeOf
  have mA := Tryd.methodAssignable
  have aW := Tryd.assignWhy
  have aE := Tryd.assignErr
  have nE := Tryd.noAsE
  have nW := Tryd.noAsW
  have uW := Tryd.hasUnwrapW
  have mW := Tryd.methodUnwrapW
  have uE := Tryd.noUnwrapE
  have vE := Tryd.noUnwrapsE
  go_enter Tryd.func72, Tryd.ntmps72
  go_wp2
  refine wp_loop_rounds 2 ?_
  rw [rounds_succ]
  go_wp2
  rw [rounds_succ]
  go_wp2
  go_ret
  exact ⟨rfl, below2 _ _ _⟩

set_option maxRecDepth 1000000 in
set_option maxHeartbeats 1600000 in
theorem As_nil (g : Nat) (w : World) :
    Calls Tryd.prog 53 #[.nilIface, .iface 93 (.pointer (some ⟨g, 0, none⟩))] w fun e w' => e = .returned (.bool false) ∧ w' = w := by
  go_enter Tryd.func53, Tryd.ntmps53
  go_wp2
  go_ret
  exact ⟨rfl, rfl⟩

end Go.Proofs.YtabecbjfamphbaaDoor
