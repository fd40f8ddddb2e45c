/- A part of the proof. -/
import Derived.Test.YtabecbjfamphbaaGreatDoorProg
import GoSem.Claim
import GoSem.ClaimJoined
import GoSem.ClaimMapViews
import Derived.JoinedTies
import Derived.KernelRfl
import Derived.RowKit
import Derived.WalkKit
import Derived.WalkSpells
import Derived.WalkLawsBesides
import Derived.LaidEql
import Derived.Stop.Asserts
import Derived.RowKitTokens
import Derived.Outline
namespace Go.Proofs.YtabecbjfamphbaaGreatDoor
open Go.RowKit Go.Stop Go.Extern
set_option maxRecDepth 100000
theorem Tryz.a5v (v:Value) (w:World):(callFunc 145 #[.iface 298 v]).run Tryz.prog w=.ok (Next.value (.iface 252 (.agg #[.pointer (some ⟨9,298,none⟩)]))) w:=by
 rw [@run_callFunc_extern Tryz.prog 145 _ Extern.ReflectliteType.typeOf Tryz.func145 (by kernel_rfl) (by kernel_rfl) (by kernel_rfl) (by kernel_rfl)]
 kernel_rfl
theorem Tryz.a3f (w:World):(callFunc 262 #[.agg #[.pointer (some ⟨9,298,none⟩)]]).run Tryz.prog w=.ok (Next.value (.bool true)) w:=by
 rw [@run_callFunc_extern Tryz.prog 262 _ (Extern.ReflectliteType.method fun t => do Go.Extern.Rtype.noPackHeld "Comparable" t; pure (.bool (← typeInfo t).comparable)) Tryz.func262 (by kernel_rfl) (by kernel_rfl) (by kernel_rfl) (by kernel_rfl)]
 kernel_rfl
theorem Tryz.a1l (v : Value) (w : World) : (Go.method 428 252 v "Comparable").run Tryz.prog w = .ok (262, v) w := by kernel_rfl
theorem Tryz.a2a (v : Value) (w : World) : (Go.method 428 208 v "Unwrap").run Tryz.prog w = .ok (257, v) w := by kernel_rfl
theorem Tryz.a5z (v : Value) (w : World) : (Go.method 428 247 v "Unwrap").run Tryz.prog w = .ok (259, v) w := by kernel_rfl
theorem Tryz.au4:(Tryz.prog.info? 298).map (·.comparable)=some true:=by kernel_rfl
theorem Tryz.aw1:(Tryz.prog.info? 317).map (·.size)=some 1:=by kernel_rfl
theorem Tryz.noIsE (v:Value) (xT:TypeId) (w:World):(Instr.typeAssert (.iface 298 v) xT 254 true).run Tryz.prog w=.ok (.tuple #[.nilIface,.bool false]) w:=run_typeAssert_lacksB Tryz.underlying254 (by kernel_rfl) (by kernel_rfl) v xT w
theorem Tryz.a88 (v:Value) (xT:TypeId) (w:World):(Instr.typeAssert (.iface 298 v) xT 257 true).run Tryz.prog w=.ok (.tuple #[.nilIface,.bool false]) w:=run_typeAssert_lacksB Tryz.underlying257 (by kernel_rfl) (by kernel_rfl) v xT w
theorem Tryz.a6s (v:Value) (xT:TypeId) (w:World):(Instr.typeAssert (.iface 298 v) xT 259 true).run Tryz.prog w=.ok (.tuple #[.nilIface,.bool false]) w:=run_typeAssert_lacksB Tryz.underlying259 (by kernel_rfl) (by kernel_rfl) v xT w
theorem Tryz.noIsW (v:Value) (xT:TypeId) (w:World):(Instr.typeAssert (.iface 208 v) xT 254 true).run Tryz.prog w=.ok (.tuple #[.nilIface,.bool false]) w:=run_typeAssert_lacksB Tryz.underlying254 (by kernel_rfl) (by kernel_rfl) v xT w
theorem Tryz.a3q (v:Value) (xT:TypeId) (w:World):(Instr.typeAssert (.iface 208 v) xT 257 true).run Tryz.prog w=.ok (.tuple #[.iface 208 v,.bool true]) w:=run_typeAssert_hasB Tryz.underlying257 (by kernel_rfl) v xT w
theorem Tryz.noIsA (v:Value) (xT:TypeId) (w:World):(Instr.typeAssert (.iface 247 v) xT 254 true).run Tryz.prog w=.ok (.tuple #[.nilIface,.bool false]) w:=run_typeAssert_lacksB Tryz.underlying254 (by kernel_rfl) (by kernel_rfl) v xT w
theorem Tryz.aa1 (v:Value) (xT:TypeId) (w:World):(Instr.typeAssert (.iface 247 v) xT 257 true).run Tryz.prog w=.ok (.tuple #[.iface 247 v,.bool true]) w:=run_typeAssert_hasB Tryz.underlying257 (by kernel_rfl) v xT w
set_option maxHeartbeats 400000 in
theorem b88 (b:Addr) (w:World) :
  Calls Tryz.prog 92 #[.nilIface,.iface 298 (.pointer (some b))] w fun e w'=>e=.returned (.bool false)∧w'=w:=by
 have hn:=run_eql_iface_nil_left (P:=Tryz.prog) w 298 (.pointer (some b)) Tryz.underlying98
 go_enter Tryz.func92,Tryz.ntmps92
 go_wp2
 go_ret
 exact ⟨rfl,rfl⟩
theorem heap_alloc_old {w:World} {k:Nat} {o x:Obj} (h:w.heap[k]?=some x):(w.alloc o).heap[k]?=some x:=by
 have hlt:k<w.heap.size:=by
  rcases Nat.lt_or_ge k w.heap.size with h' | h'
  ·exact h'
  ·simp [Array.getElem?_eq_none h'] at h
 rw [Below.heap_alloc _ _ _ hlt];exact h
set_option maxRecDepth 1000000 in
set_option maxHeartbeats 800000 in
theorem an7 (s:ByteArray) (b:Addr) (w:World) :
  Calls Tryz.prog 92 #[.iface 208 (.agg #[.string s,.iface 298 (.pointer (some b))]),.iface 298 (.pointer (some b))] w fun e w'=>e=.returned (.bool true)∧Below w.heap.size w w':=by
 obtain ⟨i,hi,hcmp⟩:=Option.map_eq_some_iff.1 Tryz.au4
 obtain ⟨j,hj,hjs⟩:=Option.map_eq_some_iff.1 Tryz.aw1
 have tT:=Tryz.a5v
 have cT:=Tryz.a3f
 have mC:=Tryz.a1l
 have mW:=Tryz.a2a
 have nW:=Tryz.noIsW
 have uW:=Tryz.a3q
 have hty:=fun v=>run_eql_iface_types (P:=Tryz.prog) 208 298 v (.pointer (some b)) Tryz.underlying98 (by decide)
 have heq:=fun w=>run_eql_iface_ptr_same (P:=Tryz.prog) w b Tryz.underlying98 Tryz.underlying298 hi hcmp hj
 clear hi hcmp hj hjs
 go_enter Tryz.func92,Tryz.ntmps92
 go_wp2
 refine wp_loop_rounds 2 ?_
 rw [rounds_succ]
 go_wp2
 rw [rounds_succ]
 go_wp2
 go_ret
 exact ⟨rfl,((Below.refl _ _).alloc (Nat.le_refl _) _)⟩
set_option maxRecDepth 1000000 in
set_option maxHeartbeats 800000 in
theorem ak9 (s:ByteArray) (a b:Addr) (w:World) (hne:a≠b) {ca cb:Array Value} {ta tb:TypeId} (ha:w.heap[a.block]?=some (.cells ca ta (0,0))) (hb:w.heap[b.block]?=some (.cells cb tb (0,0))) :
  Calls Tryz.prog 92 #[.iface 208 (.agg #[.string s,.iface 298 (.pointer (some a))]),.iface 298 (.pointer (some b))] w fun e w'=>e=.returned (.bool false)∧Below w.heap.size w w':=by
 obtain ⟨i,hi,hcmp⟩:=Option.map_eq_some_iff.1 Tryz.au4
 obtain ⟨j,hj,hjs⟩:=Option.map_eq_some_iff.1 Tryz.aw1
 have tT:=Tryz.a5v
 have cT:=Tryz.a3f
 have mC:=Tryz.a1l
 have mW:=Tryz.a2a
 have nW:=Tryz.noIsW
 have uW:=Tryz.a3q
 have hty:=fun v=>run_eql_iface_types (P:=Tryz.prog) 208 298 v (.pointer (some b)) Tryz.underlying98 (by decide)
 have nE:=Tryz.noIsE
 have uE:=Tryz.a88
 have vE:=Tryz.a6s
 have heq:=run_eql_iface_ptr_other (P:=Tryz.prog) (w.alloc (.cells #[.string s,.iface 298 (.pointer (some a))] 208)) Tryz.underlying98 Tryz.underlying298 hi hcmp hj (by rw [hjs];decide) hne (heap_alloc_old ha) (heap_alloc_old hb)
 clear hi hcmp hj hjs
 go_enter Tryz.func92,Tryz.ntmps92
 go_wp2
 refine wp_loop_rounds 2 ?_
 rw [rounds_succ]
 go_wp2
 rw [rounds_succ]
 go_wp2
 go_ret
 exact ⟨rfl,((Below.refl _ _).alloc (Nat.le_refl _) _)⟩
set_option maxRecDepth 1000000 in
set_option maxHeartbeats 800000 in
theorem ay3 (p:Int) (s:ByteArray) (b:Addr) (w:World) :
  Calls Tryz.prog 92 #[.iface 247 (.agg #[.int .i64 p,.iface 208 (.agg #[.string s,.iface 298 (.pointer (some b))])]),.iface 298 (.pointer (some b))] w fun e w'=>e=.returned (.bool true)∧Below w.heap.size w w':=by
 obtain ⟨i,hi,hcmp⟩:=Option.map_eq_some_iff.1 Tryz.au4
 obtain ⟨j,hj,hjs⟩:=Option.map_eq_some_iff.1 Tryz.aw1
 have tT:=Tryz.a5v
 have cT:=Tryz.a3f
 have mC:=Tryz.a1l
 have mW:=Tryz.a2a
 have nW:=Tryz.noIsW
 have uW:=Tryz.a3q
 have hty:=fun v=>run_eql_iface_types (P:=Tryz.prog) 208 298 v (.pointer (some b)) Tryz.underlying98 (by decide)
 have mA:=Tryz.a5z
 have nA:=Tryz.noIsA
 have uA:=Tryz.aa1
 have hta:=fun v=>run_eql_iface_types (P:=Tryz.prog) 247 298 v (.pointer (some b)) Tryz.underlying98 (by decide)
 have heq:=fun w=>run_eql_iface_ptr_same (P:=Tryz.prog) w b Tryz.underlying98 Tryz.underlying298 hi hcmp hj
 clear hi hcmp hj hjs
 go_enter Tryz.func92,Tryz.ntmps92
 go_wp2
 refine wp_loop_rounds 3 ?_
 rw [rounds_succ]
 go_wp2
 rw [rounds_succ]
 go_wp2
 rw [rounds_succ]
 go_wp2
 go_ret
 exact ⟨rfl,(((Below.refl _ _).alloc (Nat.le_refl _) _).alloc (by simp) _)⟩
set_option maxRecDepth 1000000 in
set_option maxHeartbeats 800000 in
theorem ar3 (p:Int) (s:ByteArray) (a b:Addr) (w:World) (hne:a≠b) {ca cb:Array Value} {ta tb:TypeId} (ha:w.heap[a.block]?=some (.cells ca ta (0,0))) (hb:w.heap[b.block]?=some (.cells cb tb (0,0))) :
  Calls Tryz.prog 92 #[.iface 247 (.agg #[.int .i64 p,.iface 208 (.agg #[.string s,.iface 298 (.pointer (some a))])]),.iface 298 (.pointer (some b))] w fun e w'=>e=.returned (.bool false)∧Below w.heap.size w w':=by
 obtain ⟨i,hi,hcmp⟩:=Option.map_eq_some_iff.1 Tryz.au4
 obtain ⟨j,hj,hjs⟩:=Option.map_eq_some_iff.1 Tryz.aw1
 have tT:=Tryz.a5v
 have cT:=Tryz.a3f
 have mC:=Tryz.a1l
 have mW:=Tryz.a2a
 have nW:=Tryz.noIsW
 have uW:=Tryz.a3q
 have hty:=fun v=>run_eql_iface_types (P:=Tryz.prog) 208 298 v (.pointer (some b)) Tryz.underlying98 (by decide)
 have mA:=Tryz.a5z
 have nA:=Tryz.noIsA
 have uA:=Tryz.aa1
 have hta:=fun v=>run_eql_iface_types (P:=Tryz.prog) 247 298 v (.pointer (some b)) Tryz.underlying98 (by decide)
 have nE:=Tryz.noIsE
 have uE:=Tryz.a88
 have vE:=Tryz.a6s
 have heq:=run_eql_iface_ptr_other (P:=Tryz.prog) ((w.alloc (.cells #[.int .i64 p,.iface 208 (.agg #[.string s,.iface 298 (.pointer (some a))])] 247)).alloc (.cells #[.string s,.iface 298 (.pointer (some a))] 208)) Tryz.underlying98 Tryz.underlying298 hi hcmp hj (by rw [hjs];decide) hne (heap_alloc_old (heap_alloc_old ha)) (heap_alloc_old (heap_alloc_old hb))
 clear hi hcmp hj hjs
 go_enter Tryz.func92,Tryz.ntmps92
 go_wp2
 refine wp_loop_rounds 3 ?_
 rw [rounds_succ]
 go_wp2
 rw [rounds_succ]
 go_wp2
 rw [rounds_succ]
 go_wp2
 go_ret
 exact ⟨rfl,(((Below.refl _ _).alloc (Nat.le_refl _) _).alloc (by simp) _)⟩
end Go.Proofs.YtabecbjfamphbaaGreatDoor
