/-
  errors.Is over the program's own errors: nil; a Why around a sentinel; an At around a Why around a sentinel.
-/
import Derived.Test.YtabecbjfamphbaaDoorRows
import Derived.WalkKit
import Derived.WalkSpells
import Derived.WalkLawsBesides
import Derived.LaidEql
import Derived.Stop.Asserts
import Derived.RowKitTokens
import Derived.Outline
namespace Go.Proofs.YtabecbjfamphbaaDoor
open Go.RowKit Go.Stop Go.Extern

theorem Tryd.isTypeOf (v : Value) (w : World) : (callFunc 61 #[.iface 137 v]).run Tryd.prog w = .ok (Next.value (.iface 119 (.agg #[.pointer (some ⟨9, 137, none⟩)]))) w := by
  rw [@run_callFunc_extern Tryd.prog 61 _ Extern.ReflectliteType.typeOf Tryd.func61 (by kernel_rfl) (by kernel_rfl) (by kernel_rfl) (by kernel_rfl)]
  kernel_rfl
theorem Tryd.isComparable (w : World) : (callFunc 111 #[.agg #[.pointer (some ⟨9, 137, none⟩)]]).run Tryd.prog w = .ok (Next.value (.bool true)) w := by
  rw [@run_callFunc_extern Tryd.prog 111 _ (Extern.ReflectliteType.method fun t => do Go.Extern.Rtype.noPackHeld "Comparable" t; pure (.bool (← typeInfo t).comparable)) Tryd.func111 (by kernel_rfl) (by kernel_rfl) (by kernel_rfl) (by kernel_rfl)]
  kernel_rfl
theorem Tryd.isMethodComparable (v : Value) (w : World) : (Go.method 268 119 v "Comparable").run Tryd.prog w = .ok (111, v) w := by kernel_rfl
theorem Tryd.methodUnwrapW (v : Value) (w : World) : (Go.method 268 117 v "Unwrap").run Tryd.prog w = .ok (108, v) w := by kernel_rfl
theorem Tryd.methodUnwrapA (v : Value) (w : World) : (Go.method 268 91 v "Unwrap").run Tryd.prog w = .ok (103, v) w := by kernel_rfl
theorem Tryd.isComp : (Tryd.prog.info? 137).map (·.comparable) = some true := by kernel_rfl
theorem Tryd.isSize : (Tryd.prog.info? 157).map (·.size) = some 1 := by kernel_rfl
theorem Tryd.noIsE (v : Value) (xT : TypeId) (w : World) : (Instr.typeAssert (.iface 137 v) xT 121 true).run Tryd.prog w = .ok (.tuple #[.nilIface, .bool false]) w := run_typeAssert_lacksB Tryd.underlying121 (by kernel_rfl) (by kernel_rfl) v xT w
theorem Tryd.noUnwrapE (v : Value) (xT : TypeId) (w : World) : (Instr.typeAssert (.iface 137 v) xT 124 true).run Tryd.prog w = .ok (.tuple #[.nilIface, .bool false]) w := run_typeAssert_lacksB Tryd.underlying124 (by kernel_rfl) (by kernel_rfl) v xT w
theorem Tryd.noUnwrapsE (v : Value) (xT : TypeId) (w : World) : (Instr.typeAssert (.iface 137 v) xT 126 true).run Tryd.prog w = .ok (.tuple #[.nilIface, .bool false]) w := run_typeAssert_lacksB Tryd.underlying126 (by kernel_rfl) (by kernel_rfl) v xT w
theorem Tryd.noIsW (v : Value) (xT : TypeId) (w : World) : (Instr.typeAssert (.iface 117 v) xT 121 true).run Tryd.prog w = .ok (.tuple #[.nilIface, .bool false]) w := run_typeAssert_lacksB Tryd.underlying121 (by kernel_rfl) (by kernel_rfl) v xT w
theorem Tryd.hasUnwrapW (v : Value) (xT : TypeId) (w : World) : (Instr.typeAssert (.iface 117 v) xT 124 true).run Tryd.prog w = .ok (.tuple #[.iface 117 v, .bool true]) w := run_typeAssert_hasB Tryd.underlying124 (by kernel_rfl) v xT w
theorem Tryd.noIsA (v : Value) (xT : TypeId) (w : World) : (Instr.typeAssert (.iface 91 v) xT 121 true).run Tryd.prog w = .ok (.tuple #[.nilIface, .bool false]) w := run_typeAssert_lacksB Tryd.underlying121 (by kernel_rfl) (by kernel_rfl) v xT w
theorem Tryd.hasUnwrapA (v : Value) (xT : TypeId) (w : World) : (Instr.typeAssert (.iface 91 v) xT 124 true).run Tryd.prog w = .ok (.tuple #[.iface 91 v, .bool true]) w := run_typeAssert_hasB Tryd.underlying124 (by kernel_rfl) v xT w

/-- The program's own error values. -/
def eSent (a : Addr) : Value := .iface 137 (.pointer (some a))
def eWhy (s : ByteArray) (a : Addr) : Value := .iface 117 (.agg #[.string s, .iface 137 (.pointer (some a))])
def eAt (p : Int) (s : ByteArray) (a : Addr) : Value := .iface 91 (.agg #[.int .i64 p, .iface 117 (.agg #[.string s, .iface 137 (.pointer (some a))])])

set_option maxHeartbeats 400000 in
theorem is_nil (b : Addr) (w : World) :
    Calls Tryd.prog 50 #[.nilIface, .iface 137 (.pointer (some b))] w fun e w' => e = .returned (.bool false) ∧ w' = w := by
  have hn := run_eql_iface_nil_left (P := Tryd.prog) w 137 (.pointer (some b)) Tryd.underlying63
  go_enter Tryd.func50, Tryd.ntmps50
  go_wp2
  go_ret
  exact ⟨rfl, rfl⟩

theorem heap_alloc_old {w : World} {k : Nat} {o x : Obj} (h : w.heap[k]? = some x) : (w.alloc o).heap[k]? = some x := by
  have hlt : k < w.heap.size := by
    rcases Nat.lt_or_ge k w.heap.size with h' | h'
    · exact h'
    · simp [Array.getElem?_eq_none h'] at h
  rw [Below.heap_alloc _ _ _ hlt]; exact h

set_option maxRecDepth 1000000 in
set_option maxHeartbeats 800000 in
theorem is_why_same (s : ByteArray) (b : Addr) (w : World) :
    Calls Tryd.prog 50 #[.iface 117 (.agg #[.string s, .iface 137 (.pointer (some b))]), .iface 137 (.pointer (some b))] w fun e w' => e = .returned (.bool true) ∧ Below w.heap.size w w' := by
  obtain ⟨i, hi, hcmp⟩ := Option.map_eq_some_iff.1 Tryd.isComp
  obtain ⟨j, hj, hjs⟩ := Option.map_eq_some_iff.1 Tryd.isSize
  have tT := Tryd.isTypeOf
  have cT := Tryd.isComparable
  have mC := Tryd.isMethodComparable
  have mW := Tryd.methodUnwrapW
  have nW := Tryd.noIsW
  have uW := Tryd.hasUnwrapW
  have hty := fun v => run_eql_iface_types (P := Tryd.prog) 117 137 v (.pointer (some b)) Tryd.underlying63 (by decide)
  have heq := fun w => run_eql_iface_ptr_same (P := Tryd.prog) w b Tryd.underlying63 Tryd.underlying137 hi hcmp hj
  clear hi hcmp hj hjs
  go_enter Tryd.func50, Tryd.ntmps50
  go_wp2
  refine wp_loop_rounds 2 ?_
  rw [rounds_succ]
  go_wp2
  rw [rounds_succ]
  go_wp2
  go_ret
  exact ⟨rfl, ((Below.refl _ _).alloc (Nat.le_refl _) _)⟩

set_option maxRecDepth 1000000 in
set_option maxHeartbeats 800000 in
theorem is_why_other (s : ByteArray) (a b : Addr) (w : World) (hne : a ≠ b) {ca cb : Array Value} {ta tb : TypeId} (ha : w.heap[a.block]? = some (.cells ca ta (0, 0))) (hb : w.heap[b.block]? = some (.cells cb tb (0, 0))) :
    Calls Tryd.prog 50 #[.iface 117 (.agg #[.string s, .iface 137 (.pointer (some a))]), .iface 137 (.pointer (some b))] w fun e w' => e = .returned (.bool false) ∧ Below w.heap.size w w' := by
  obtain ⟨i, hi, hcmp⟩ := Option.map_eq_some_iff.1 Tryd.isComp
  obtain ⟨j, hj, hjs⟩ := Option.map_eq_some_iff.1 Tryd.isSize
  have tT := Tryd.isTypeOf
  have cT := Tryd.isComparable
  have mC := Tryd.isMethodComparable
  have mW := Tryd.methodUnwrapW
  have nW := Tryd.noIsW
  have uW := Tryd.hasUnwrapW
  have hty := fun v => run_eql_iface_types (P := Tryd.prog) 117 137 v (.pointer (some b)) Tryd.underlying63 (by decide)
  have nE := Tryd.noIsE
  have uE := Tryd.noUnwrapE
  have vE := Tryd.noUnwrapsE
  have heq := run_eql_iface_ptr_other (P := Tryd.prog) (w.alloc (.cells #[.string s, .iface 137 (.pointer (some a))] 117)) Tryd.underlying63 Tryd.underlying137 hi hcmp hj (by rw [hjs]; decide) hne (heap_alloc_old ha) (heap_alloc_old hb)
  clear hi hcmp hj hjs
  go_enter Tryd.func50, Tryd.ntmps50
  go_wp2
  refine wp_loop_rounds 2 ?_
  rw [rounds_succ]
  go_wp2
  rw [rounds_succ]
  go_wp2
  go_ret
  exact ⟨rfl, ((Below.refl _ _).alloc (Nat.le_refl _) _)⟩

set_option maxRecDepth 1000000 in
set_option maxHeartbeats 800000 in
theorem is_at_same (p : Int) (s : ByteArray) (b : Addr) (w : World) :
    Calls Tryd.prog 50 #[.iface 91 (.agg #[.int .i64 p, .iface 117 (.agg #[.string s, .iface 137 (.pointer (some b))])]), .iface 137 (.pointer (some b))] w fun e w' => e = .returned (.bool true) ∧ Below w.heap.size w w' := by
  obtain ⟨i, hi, hcmp⟩ := Option.map_eq_some_iff.1 Tryd.isComp
  obtain ⟨j, hj, hjs⟩ := Option.map_eq_some_iff.1 Tryd.isSize
  have tT := Tryd.isTypeOf
  have cT := Tryd.isComparable
  have mC := Tryd.isMethodComparable
  have mW := Tryd.methodUnwrapW
  have nW := Tryd.noIsW
  have uW := Tryd.hasUnwrapW
  have hty := fun v => run_eql_iface_types (P := Tryd.prog) 117 137 v (.pointer (some b)) Tryd.underlying63 (by decide)
  have mA := Tryd.methodUnwrapA
  have nA := Tryd.noIsA
  have uA := Tryd.hasUnwrapA
  have hta := fun v => run_eql_iface_types (P := Tryd.prog) 91 137 v (.pointer (some b)) Tryd.underlying63 (by decide)
  have heq := fun w => run_eql_iface_ptr_same (P := Tryd.prog) w b Tryd.underlying63 Tryd.underlying137 hi hcmp hj
  clear hi hcmp hj hjs
  go_enter Tryd.func50, Tryd.ntmps50
  go_wp2
  refine wp_loop_rounds 3 ?_
  rw [rounds_succ]
  go_wp2
  rw [rounds_succ]
  go_wp2
  rw [rounds_succ]
  go_wp2
  go_ret
  exact ⟨rfl, (((Below.refl _ _).alloc (Nat.le_refl _) _).alloc (by simp) _)⟩

set_option maxRecDepth 1000000 in
set_option maxHeartbeats 800000 in
theorem is_at_other (p : Int) (s : ByteArray) (a b : Addr) (w : World) (hne : a ≠ b) {ca cb : Array Value} {ta tb : TypeId} (ha : w.heap[a.block]? = some (.cells ca ta (0, 0))) (hb : w.heap[b.block]? = some (.cells cb tb (0, 0))) :
    Calls Tryd.prog 50 #[.iface 91 (.agg #[.int .i64 p, .iface 117 (.agg #[.string s, .iface 137 (.pointer (some a))])]), .iface 137 (.pointer (some b))] w fun e w' => e = .returned (.bool false) ∧ Below w.heap.size w w' := by
  obtain ⟨i, hi, hcmp⟩ := Option.map_eq_some_iff.1 Tryd.isComp
  obtain ⟨j, hj, hjs⟩ := Option.map_eq_some_iff.1 Tryd.isSize
  have tT := Tryd.isTypeOf
  have cT := Tryd.isComparable
  have mC := Tryd.isMethodComparable
  have mW := Tryd.methodUnwrapW
  have nW := Tryd.noIsW
  have uW := Tryd.hasUnwrapW
  have hty := fun v => run_eql_iface_types (P := Tryd.prog) 117 137 v (.pointer (some b)) Tryd.underlying63 (by decide)
  have mA := Tryd.methodUnwrapA
  have nA := Tryd.noIsA
  have uA := Tryd.hasUnwrapA
  have hta := fun v => run_eql_iface_types (P := Tryd.prog) 91 137 v (.pointer (some b)) Tryd.underlying63 (by decide)
  have nE := Tryd.noIsE
  have uE := Tryd.noUnwrapE
  have vE := Tryd.noUnwrapsE
  have heq := run_eql_iface_ptr_other (P := Tryd.prog) ((w.alloc (.cells #[.int .i64 p, .iface 117 (.agg #[.string s, .iface 137 (.pointer (some a))])] 91)).alloc (.cells #[.string s, .iface 137 (.pointer (some a))] 117)) Tryd.underlying63 Tryd.underlying137 hi hcmp hj (by rw [hjs]; decide) hne (heap_alloc_old (heap_alloc_old ha)) (heap_alloc_old (heap_alloc_old hb))
  clear hi hcmp hj hjs
  go_enter Tryd.func50, Tryd.ntmps50
  go_wp2
  refine wp_loop_rounds 3 ?_
  rw [rounds_succ]
  go_wp2
  rw [rounds_succ]
  go_wp2
  rw [rounds_succ]
  go_wp2
  go_ret
  exact ⟨rfl, (((Below.refl _ _).alloc (Nat.le_refl _) _).alloc (by simp) _)⟩

end Go.Proofs.YtabecbjfamphbaaDoor
