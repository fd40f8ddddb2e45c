/- A part of the proof. -/
import Derived.Test.YtabecbjfamphbaaGreatDoorM03
namespace Go.Proofs.YtabecbjfamphbaaGreatDoor
open Go.RowKit Go.Stop Go.Extern
set_option maxRecDepth 100000
/-! Closed facts: what reflectlite answers. -/
theorem Tryz.ab3 (b:Addr) (w:World):(callFunc 214 #[.iface 249 (.pointer (some b))]).run Tryz.prog w=.ok (Next.value (.agg #[.pointer (some ⟨9,249,none⟩),.pointer (some ⟨w.heap.size,0,none⟩),.int .u64 150])) (w.alloc (.cells #[.pointer (some b)] 249)):=by
 rw [@run_callFunc_extern Tryz.prog 214 _ (fun args=>Extern.ReflectliteValue.unpack (args.getD 0 (.tuple #[]))) Tryz.func214 (by kernel_rfl) (by kernel_rfl) (by kernel_rfl) (by kernel_rfl)]
 kernel_rfl
theorem Tryz.a8x (b:Addr) (w:World):(callFunc 215 #[.agg #[.pointer (some ⟨9,249,none⟩),.pointer (some b),.int .u64 150]]).run Tryz.prog w=.ok (Next.value (.iface 252 (.agg #[.pointer (some ⟨9,249,none⟩)]))) w:=by
 rw [@run_callFunc_extern Tryz.prog 215 _ (Extern.ReflectliteValue.methodAny (Extern.ReflectliteValue.valueError "reflectlite.Value.Type" 0) fun t _ _ _ => Extern.ReflectliteType.toType t) Tryz.func215 (by kernel_rfl) (by kernel_rfl) (by kernel_rfl) (by kernel_rfl)]
 kernel_rfl
theorem Tryz.a9v (t : Nat) (w : World) : (Go.method 428 252 (.agg #[.pointer (some ⟨9, t, none⟩)]) "Kind").run Tryz.prog w = .ok (253, .pointer (some ⟨9, t, none⟩)) w := by kernel_rfl
theorem Tryz.b1e (w:World):(callFunc 253 #[.pointer (some ⟨9,249,none⟩)]).run Tryz.prog w=.ok (Next.value (.int .u8 22)) w:=by
 rw [@run_callFunc_extern Tryz.prog 253 _ (Extern.ReflectliteType.abiMethod fun t=>do pure (.int .u8 (← Extern.Rtype.kind t))) Tryz.func253 (by kernel_rfl) (by kernel_rfl) (by kernel_rfl) (by kernel_rfl)]
 kernel_rfl
theorem Tryz.b68 (w:World):(callFunc 253 #[.pointer (some ⟨9,247,none⟩)]).run Tryz.prog w=.ok (Next.value (.int .u8 25)) w:=by
 rw [@run_callFunc_extern Tryz.prog 253 _ (Extern.ReflectliteType.abiMethod fun t=>do pure (.int .u8 (← Extern.Rtype.kind t))) Tryz.func253 (by kernel_rfl) (by kernel_rfl) (by kernel_rfl) (by kernel_rfl)]
 kernel_rfl
theorem Tryz.aa6 (v : Value) (w : World) : (Go.method 428 252 v "Elem").run Tryz.prog w = .ok (263, v) w := by kernel_rfl
theorem Tryz.b3s (w:World):(callFunc 263 #[.agg #[.pointer (some ⟨9,249,none⟩)]]).run Tryz.prog w=.ok (Next.value (.iface 252 (.agg #[.pointer (some ⟨9,247,none⟩)]))) w:=by
 rw [@run_callFunc_extern Tryz.prog 263 _ (Extern.ReflectliteType.method Extern.ReflectliteType.elem) Tryz.func263 (by kernel_rfl) (by kernel_rfl) (by kernel_rfl) (by kernel_rfl)]
 kernel_rfl
theorem Tryz.a4c (v : Value) (w : World) : (Go.method 428 252 v "Implements").run Tryz.prog w = .ok (264, v) w := by kernel_rfl
theorem Tryz.a7f (w:World):(callFunc 264 #[.agg #[.pointer (some ⟨9,247,none⟩)],.iface 252 (.agg #[.pointer (some ⟨9,98,none⟩)])]).run Tryz.prog w=.ok (Next.value (.bool true)) w:=by
 rw [@run_callFunc_extern Tryz.prog 264 _ (Extern.ReflectliteType.relation "Implements" Extern.ReflectliteType.implements_) Tryz.func264 (by kernel_rfl) (by kernel_rfl) (by kernel_rfl) (by kernel_rfl)]
 kernel_rfl
theorem Tryz.a4f (v : Value) (w : World) : (Go.method 428 252 v "AssignableTo").run Tryz.prog w = .ok (261, v) w := by kernel_rfl
theorem Tryz.b5s (w:World):(callFunc 261 #[.agg #[.pointer (some ⟨9,247,none⟩)],.iface 252 (.agg #[.pointer (some ⟨9,247,none⟩)])]).run Tryz.prog w=.ok (Next.value (.bool true)) w:=by
 rw [@run_callFunc_extern Tryz.prog 261 _ (Extern.ReflectliteType.relation "AssignableTo" Extern.ReflectliteType.assignableTo) Tryz.func261 (by kernel_rfl) (by kernel_rfl) (by kernel_rfl) (by kernel_rfl)]
 kernel_rfl
theorem Tryz.b29 (w:World):(callFunc 261 #[.agg #[.pointer (some ⟨9,208,none⟩)],.iface 252 (.agg #[.pointer (some ⟨9,247,none⟩)])]).run Tryz.prog w=.ok (Next.value (.bool false)) w:=by
 rw [@run_callFunc_extern Tryz.prog 261 _ (Extern.ReflectliteType.relation "AssignableTo" Extern.ReflectliteType.assignableTo) Tryz.func261 (by kernel_rfl) (by kernel_rfl) (by kernel_rfl) (by kernel_rfl)]
 kernel_rfl
theorem Tryz.b1t (w:World):(callFunc 261 #[.agg #[.pointer (some ⟨9,298,none⟩)],.iface 252 (.agg #[.pointer (some ⟨9,247,none⟩)])]).run Tryz.prog w=.ok (Next.value (.bool false)) w:=by
 rw [@run_callFunc_extern Tryz.prog 261 _ (Extern.ReflectliteType.relation "AssignableTo" Extern.ReflectliteType.assignableTo) Tryz.func261 (by kernel_rfl) (by kernel_rfl) (by kernel_rfl) (by kernel_rfl)]
 kernel_rfl
theorem Tryz.b4a (v:Value) (w:World):(callFunc 145 #[.iface 247 v]).run Tryz.prog w=.ok (Next.value (.iface 252 (.agg #[.pointer (some ⟨9,247,none⟩)]))) w:=by
 rw [@run_callFunc_extern Tryz.prog 145 _ Extern.ReflectliteType.typeOf Tryz.func145 (by kernel_rfl) (by kernel_rfl) (by kernel_rfl) (by kernel_rfl)]
 kernel_rfl
theorem Tryz.b3z (v:Value) (w:World):(callFunc 145 #[.iface 208 v]).run Tryz.prog w=.ok (Next.value (.iface 252 (.agg #[.pointer (some ⟨9,208,none⟩)]))) w:=by
 rw [@run_callFunc_extern Tryz.prog 145 _ Extern.ReflectliteType.typeOf Tryz.func145 (by kernel_rfl) (by kernel_rfl) (by kernel_rfl) (by kernel_rfl)]
 kernel_rfl
theorem Tryz.b24 (p:Int) (e:Value) (w:World):(callFunc 214 #[.iface 247 (.agg #[.int .i64 p,e])]).run Tryz.prog w=.ok (Next.value (.agg #[.pointer (some ⟨9,247,none⟩),.pointer (some ⟨w.heap.size,0,none⟩),.int .u64 153])) (w.alloc (.cells #[.int .i64 p,e] 247)):=by
 rw [@run_callFunc_extern Tryz.prog 214 _ (fun args=>Extern.ReflectliteValue.unpack (args.getD 0 (.tuple #[]))) Tryz.func214 (by kernel_rfl) (by kernel_rfl) (by kernel_rfl) (by kernel_rfl)]
 kernel_rfl
theorem Tryz.noAsE (v:Value) (xT:TypeId) (w:World):(Instr.typeAssert (.iface 298 v) xT 293 true).run Tryz.prog w=.ok (.tuple #[.nilIface,.bool false]) w:=run_typeAssert_lacksB Tryz.underlying293 (by kernel_rfl) (by kernel_rfl) v xT w
theorem Tryz.noAsW (v:Value) (xT:TypeId) (w:World):(Instr.typeAssert (.iface 208 v) xT 293 true).run Tryz.prog w=.ok (.tuple #[.nilIface,.bool false]) w:=run_typeAssert_lacksB Tryz.underlying293 (by kernel_rfl) (by kernel_rfl) v xT w
end Go.Proofs.YtabecbjfamphbaaGreatDoor
