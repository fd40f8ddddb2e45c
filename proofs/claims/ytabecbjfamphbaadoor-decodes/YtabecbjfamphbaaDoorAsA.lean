/-
  errors.As over the program's own errors, as 'place' asks it.
-/
import Derived.Test.YtabecbjfamphbaaDoorChk
namespace Go.Proofs.YtabecbjfamphbaaDoor
open Go.RowKit Go.Stop Go.Extern

/-! Closed facts: what reflectlite answers. -/
theorem Tryd.valueOfPtr (b : Addr) (w : World) : (callFunc 69 #[.iface 93 (.pointer (some b))]).run Tryd.prog w = .ok (Next.value (.agg #[.pointer (some ⟨9, 93, none⟩), .pointer (some ⟨w.heap.size, 0, none⟩), .int .u64 150])) (w.alloc (.cells #[.pointer (some b)] 93)) := by
  rw [@run_callFunc_extern Tryd.prog 69 _ (fun args => Extern.ReflectliteValue.unpack (args.getD 0 (.tuple #[]))) Tryd.func69 (by kernel_rfl) (by kernel_rfl) (by kernel_rfl) (by kernel_rfl)]
  kernel_rfl
theorem Tryd.typeOfValue (b : Addr) (w : World) : (callFunc 70 #[.agg #[.pointer (some ⟨9, 93, none⟩), .pointer (some b), .int .u64 150]]).run Tryd.prog w = .ok (Next.value (.iface 119 (.agg #[.pointer (some ⟨9, 93, none⟩)]))) w := by
  rw [@run_callFunc_extern Tryd.prog 70 _ (Extern.ReflectliteValue.methodAny (Extern.ReflectliteValue.valueError "reflectlite.Value.Type" 0) fun t _ _ _ => Extern.ReflectliteType.toType t) Tryd.func70 (by kernel_rfl) (by kernel_rfl) (by kernel_rfl) (by kernel_rfl)]
  kernel_rfl
theorem Tryd.methodKind (t : Nat) (w : World) : (Go.method 268 119 (.agg #[.pointer (some ⟨9, t, none⟩)]) "Kind").run Tryd.prog w = .ok (99, .pointer (some ⟨9, t, none⟩)) w := by kernel_rfl
theorem Tryd.kindPtr (w : World) : (callFunc 99 #[.pointer (some ⟨9, 93, none⟩)]).run Tryd.prog w = .ok (Next.value (.int .u8 22)) w := by
  rw [@run_callFunc_extern Tryd.prog 99 _ (Extern.ReflectliteType.abiMethod fun t => do pure (.int .u8 (← Extern.Rtype.kind t))) Tryd.func99 (by kernel_rfl) (by kernel_rfl) (by kernel_rfl) (by kernel_rfl)]
  kernel_rfl
theorem Tryd.kindAt (w : World) : (callFunc 99 #[.pointer (some ⟨9, 91, none⟩)]).run Tryd.prog w = .ok (Next.value (.int .u8 25)) w := by
  rw [@run_callFunc_extern Tryd.prog 99 _ (Extern.ReflectliteType.abiMethod fun t => do pure (.int .u8 (← Extern.Rtype.kind t))) Tryd.func99 (by kernel_rfl) (by kernel_rfl) (by kernel_rfl) (by kernel_rfl)]
  kernel_rfl
theorem Tryd.methodElem (v : Value) (w : World) : (Go.method 268 119 v "Elem").run Tryd.prog w = .ok (112, v) w := by kernel_rfl
theorem Tryd.elemPtr (w : World) : (callFunc 112 #[.agg #[.pointer (some ⟨9, 93, none⟩)]]).run Tryd.prog w = .ok (Next.value (.iface 119 (.agg #[.pointer (some ⟨9, 91, none⟩)]))) w := by
  rw [@run_callFunc_extern Tryd.prog 112 _ (Extern.ReflectliteType.method Extern.ReflectliteType.elem) Tryd.func112 (by kernel_rfl) (by kernel_rfl) (by kernel_rfl) (by kernel_rfl)]
  kernel_rfl
theorem Tryd.methodImplements (v : Value) (w : World) : (Go.method 268 119 v "Implements").run Tryd.prog w = .ok (113, v) w := by kernel_rfl
theorem Tryd.implementsAt (w : World) : (callFunc 113 #[.agg #[.pointer (some ⟨9, 91, none⟩)], .iface 119 (.agg #[.pointer (some ⟨9, 63, none⟩)])]).run Tryd.prog w = .ok (Next.value (.bool true)) w := by
  rw [@run_callFunc_extern Tryd.prog 113 _ (Extern.ReflectliteType.relation "Implements" Extern.ReflectliteType.implements_) Tryd.func113 (by kernel_rfl) (by kernel_rfl) (by kernel_rfl) (by kernel_rfl)]
  kernel_rfl
theorem Tryd.methodAssignable (v : Value) (w : World) : (Go.method 268 119 v "AssignableTo").run Tryd.prog w = .ok (110, v) w := by kernel_rfl
theorem Tryd.assignAt (w : World) : (callFunc 110 #[.agg #[.pointer (some ⟨9, 91, none⟩)], .iface 119 (.agg #[.pointer (some ⟨9, 91, none⟩)])]).run Tryd.prog w = .ok (Next.value (.bool true)) w := by
  rw [@run_callFunc_extern Tryd.prog 110 _ (Extern.ReflectliteType.relation "AssignableTo" Extern.ReflectliteType.assignableTo) Tryd.func110 (by kernel_rfl) (by kernel_rfl) (by kernel_rfl) (by kernel_rfl)]
  kernel_rfl
theorem Tryd.assignWhy (w : World) : (callFunc 110 #[.agg #[.pointer (some ⟨9, 117, none⟩)], .iface 119 (.agg #[.pointer (some ⟨9, 91, none⟩)])]).run Tryd.prog w = .ok (Next.value (.bool false)) w := by
  rw [@run_callFunc_extern Tryd.prog 110 _ (Extern.ReflectliteType.relation "AssignableTo" Extern.ReflectliteType.assignableTo) Tryd.func110 (by kernel_rfl) (by kernel_rfl) (by kernel_rfl) (by kernel_rfl)]
  kernel_rfl
theorem Tryd.assignErr (w : World) : (callFunc 110 #[.agg #[.pointer (some ⟨9, 137, none⟩)], .iface 119 (.agg #[.pointer (some ⟨9, 91, none⟩)])]).run Tryd.prog w = .ok (Next.value (.bool false)) w := by
  rw [@run_callFunc_extern Tryd.prog 110 _ (Extern.ReflectliteType.relation "AssignableTo" Extern.ReflectliteType.assignableTo) Tryd.func110 (by kernel_rfl) (by kernel_rfl) (by kernel_rfl) (by kernel_rfl)]
  kernel_rfl
theorem Tryd.typeOfAt (v : Value) (w : World) : (callFunc 61 #[.iface 91 v]).run Tryd.prog w = .ok (Next.value (.iface 119 (.agg #[.pointer (some ⟨9, 91, none⟩)]))) w := by
  rw [@run_callFunc_extern Tryd.prog 61 _ Extern.ReflectliteType.typeOf Tryd.func61 (by kernel_rfl) (by kernel_rfl) (by kernel_rfl) (by kernel_rfl)]
  kernel_rfl
theorem Tryd.typeOfWhy (v : Value) (w : World) : (callFunc 61 #[.iface 117 v]).run Tryd.prog w = .ok (Next.value (.iface 119 (.agg #[.pointer (some ⟨9, 117, none⟩)]))) w := by
  rw [@run_callFunc_extern Tryd.prog 61 _ Extern.ReflectliteType.typeOf Tryd.func61 (by kernel_rfl) (by kernel_rfl) (by kernel_rfl) (by kernel_rfl)]
  kernel_rfl
theorem Tryd.valueOfAt (p : Int) (e : Value) (w : World) : (callFunc 69 #[.iface 91 (.agg #[.int .i64 p, e])]).run Tryd.prog w = .ok (Next.value (.agg #[.pointer (some ⟨9, 91, none⟩), .pointer (some ⟨w.heap.size, 0, none⟩), .int .u64 153])) (w.alloc (.cells #[.int .i64 p, e] 91)) := by
  rw [@run_callFunc_extern Tryd.prog 69 _ (fun args => Extern.ReflectliteValue.unpack (args.getD 0 (.tuple #[]))) Tryd.func69 (by kernel_rfl) (by kernel_rfl) (by kernel_rfl) (by kernel_rfl)]
  kernel_rfl
theorem Tryd.noAsE (v : Value) (xT : TypeId) (w : World) : (Instr.typeAssert (.iface 137 v) xT 133 true).run Tryd.prog w = .ok (.tuple #[.nilIface, .bool false]) w := run_typeAssert_lacksB Tryd.underlying133 (by kernel_rfl) (by kernel_rfl) v xT w
theorem Tryd.noAsW (v : Value) (xT : TypeId) (w : World) : (Instr.typeAssert (.iface 117 v) xT 133 true).run Tryd.prog w = .ok (.tuple #[.nilIface, .bool false]) w := run_typeAssert_lacksB Tryd.underlying133 (by kernel_rfl) (by kernel_rfl) v xT w
end Go.Proofs.YtabecbjfamphbaaDoor
