/- A part of the proof. -/
import Derived.Test.YtabecbjfamphbaaGreatDoorM23
import Derived.Test.YtabecbjfamphbaaGreatDoorM10
namespace Go.Proofs.YtabecbjfamphbaaGreatDoor
open Go.RowKit Go.Stop Go.Extern
set_option maxRecDepth 100000
theorem Tryz.aw6 (b:Addr) (w:World):(Extern.ReflectliteValue.parts (.agg #[.pointer (some ⟨9,249,none⟩),.pointer (some b),.int .u64 150])).run Tryz.prog w=.ok (some (249,b,150)) w:=by kernel_rfl
theorem Tryz.b7f (b:Addr) (w:World):(Extern.ReflectliteValue.parts (.agg #[.pointer (some ⟨9,247,none⟩),.pointer (some b),.int .u64 153])).run Tryz.prog w=.ok (some (247,b,153)) w:=by kernel_rfl
theorem Tryz.b0l (b:Addr) (w:World):(Extern.ReflectliteValue.parts (.agg #[.pointer (some ⟨9,247,none⟩),.pointer (some b),.int .u64 409])).run Tryz.prog w=.ok (some (247,b,409)) w:=by kernel_rfl
theorem Tryz.elemQ (w:World):(Extern.Rtype.elem? 249).run Tryz.prog w=.ok (some 247) w:=by kernel_rfl
theorem Tryz.mkAt (q:Addr) (w:World):(Extern.ReflectliteValue.mk 247 q Extern.ReflectliteValue.flagAddr).run Tryz.prog w=.ok (.agg #[.pointer (some ⟨9,247,none⟩),.pointer (some q),.int .u64 409]) w:=by kernel_rfl
theorem Tryz.b5k (w:World):(Extern.Rtype.directlyAssignable 247 247).run Tryz.prog w=.ok true w:=by kernel_rfl
theorem aw0 (b q:Addr) (w:World) (h:w.cell? b=some (.pointer (some q))):(loadVar 249 b).run Tryz.prog w=.ok (.pointer (some q)) w:=by
 go_simp
theorem b6m (s:Nat) (p:Int) (e:Value) (w:World) (h0:w.cell? ⟨s,0,none⟩=some (.int .i64 p)) (h1:w.cell? ⟨s,1,none⟩=some e):(loadVar 247 ⟨s,0,none⟩).run Tryz.prog w=.ok (.agg #[.int .i64 p,e]) w:=by
 go_simp
theorem b5e (g:Nat) (p:Int) (t:TypeId) (u x y:Value) (w:World) (g0:w.cell? ⟨g,0,none⟩=some x) (g1:w.cell? ⟨g,1,none⟩=some y) (f0:w.frozen? ⟨g,0,none⟩=false) (f1:w.frozen? ⟨g,1,none⟩=false) :
  (storeVar 247 ⟨g,0,none⟩ (.agg #[.int .i64 p,.iface t u])).run Tryz.prog w=.ok () ((w.setCell ⟨g,0,none⟩ (.int .i64 p)).setCell ⟨g,1,none⟩ (.iface t u)):=by
 go_simp
theorem ak7 (z:Sem Value) (f:TypeId→Addr→Nat→Nat→Sem Value) (v:Value):Extern.ReflectliteValue.method z f #[v]=(Extern.ReflectliteValue.parts v >>= fun r=>match r with | none=>z | some (t,a,fl)=>f t a fl (fl % 32)):=rfl
theorem b0m (t:TypeId) (b:Addr):Extern.ReflectliteValue.isNil t b 150 22=(loadVar t b >>= fun x=>match x with | .chan none | .nilFunc | .nilIface | .map none | .pointer none | .slice none _ _=>(pure (Value.bool true):Sem Value) | _=>pure (.bool false)):=rfl
theorem b1i (t : TypeId) (b : Addr) : Extern.ReflectliteValue.elem t b 150 22 = (loadVar t b >>= fun x => Extern.Rtype.elem? t >>= fun r => match (22 : Nat), x, r with | 20, i, _ => Extern.ReflectliteValue.unpack i | 22, .pointer none, _ => pure Extern.ReflectliteValue.zeroV | 22, .pointer (some p), some e => Extern.ReflectliteValue.mk e p Extern.ReflectliteValue.flagAddr | _, _, _ => Extern.ReflectliteValue.valueError "reflectlite.Value.Elem" 22) := rfl
theorem af6 (b q:Addr) (w:World) (h:w.cell? b=some (.pointer (some q))):(callFunc 216 #[.agg #[.pointer (some ⟨9,249,none⟩),.pointer (some b),.int .u64 150]]).run Tryz.prog w=.ok (Next.value (.bool false)) w:=by
 rw [@run_callFunc_extern Tryz.prog 216 _ (Extern.ReflectliteValue.method (Extern.ReflectliteValue.valueError "reflectlite.Value.IsNil" 0) Extern.ReflectliteValue.isNil) Tryz.func216 (by kernel_rfl) (by kernel_rfl) (by kernel_rfl) (by kernel_rfl)]
 rw [ak7,Sem.run_bind,Tryz.aw6 b w]
 simp only [Result.andThen]
 rw [show (150 % 32:Nat)=22 from rfl,b0m,Sem.run_bind,aw0 b q w h]
 rfl
theorem elem_run (b q:Addr) (w:World) (h:w.cell? b=some (.pointer (some q))):(callFunc 233 #[.agg #[.pointer (some ⟨9,249,none⟩),.pointer (some b),.int .u64 150]]).run Tryz.prog w=.ok (Next.value (.agg #[.pointer (some ⟨9,247,none⟩),.pointer (some q),.int .u64 409])) w:=by
 rw [@run_callFunc_extern Tryz.prog 233 _ (Extern.ReflectliteValue.method (Extern.ReflectliteValue.valueError "reflectlite.Value.Elem" 0) Extern.ReflectliteValue.elem) Tryz.func233 (by kernel_rfl) (by kernel_rfl) (by kernel_rfl) (by kernel_rfl)]
 rw [ak7,Sem.run_bind,Tryz.aw6 b w]
 simp only [Result.andThen]
 rw [show (150 % 32:Nat)=22 from rfl,b1i,Sem.run_bind,aw0 b q w h]
 simp only [Result.andThen]
 rw [Sem.run_bind,Tryz.elemQ w]
 simp only [Result.andThen]
 rw [Tryz.mkAt q w]
theorem b3g (v x:Value) (dst src:TypeId) (a b:Addr) (n:Nat) (w:World) (hv:∀ w,(Extern.ReflectliteValue.parts v).run Tryz.prog w=.ok (some (dst,a,409)) w) (hx:∀ w,(Extern.ReflectliteValue.parts x).run Tryz.prog w=.ok (some (src,b,n)) w) :
  ∃ R:Value→Sem Value,(Extern.ReflectliteValue.set #[v,x]).run Tryz.prog w=(loadVar src b >>= fun val=>Extern.Rtype.directlyAssignable dst src >>= fun d=>if d=true then (storeVar dst a val >>= fun _=>pure (.tuple #[])) else R val).run Tryz.prog w:=by
 have e:∃ k:Option (TypeId × Addr × Nat)→Option (TypeId × Addr × Nat)→Sem Value,Extern.ReflectliteValue.set #[v,x]=(Extern.ReflectliteValue.parts v >>= fun r=>Extern.ReflectliteValue.parts x >>= fun q=>k r q) ∧
   ∃ R:Value→Sem Value,k (some (dst,a,409)) (some (src,b,n))=(loadVar src b >>= fun val=>Extern.Rtype.directlyAssignable dst src >>= fun d=>if d=true then (storeVar dst a val >>= fun _=>pure (.tuple #[])) else R val):=⟨_,rfl,_,rfl⟩
 obtain ⟨k,h1,R,h2⟩:=e
 refine ⟨R,?_⟩
 rw [h1,Sem.run_bind,hv]
 simp only [Result.andThen]
 rw [Sem.run_bind,hx]
 simp only [Result.andThen]
 rw [h2]
theorem b7j (g s:Nat) (p:Int) (t:TypeId) (u x y:Value) (w:World) (h0:w.cell? ⟨s,0,none⟩=some (.int .i64 p)) (h1:w.cell? ⟨s,1,none⟩=some (.iface t u)) (g0:w.cell? ⟨g,0,none⟩=some x) (g1:w.cell? ⟨g,1,none⟩=some y) (f0:w.frozen? ⟨g,0,none⟩=false) (f1:w.frozen? ⟨g,1,none⟩=false) :
  (callFunc 234 #[.agg #[.pointer (some ⟨9,247,none⟩),.pointer (some ⟨g,0,none⟩),.int .u64 409],.agg #[.pointer (some ⟨9,247,none⟩),.pointer (some ⟨s,0,none⟩),.int .u64 153]]).run Tryz.prog w=.ok (Next.value (.tuple #[])) ((w.setCell ⟨g,0,none⟩ (.int .i64 p)).setCell ⟨g,1,none⟩ (.iface t u)):=by
 rw [@run_callFunc_extern Tryz.prog 234 _ Extern.ReflectliteValue.set Tryz.func234 (by kernel_rfl) (by kernel_rfl) (by kernel_rfl) (by kernel_rfl)]
 obtain ⟨R,hR⟩:=b3g _ _ 247 247 ⟨g,0,none⟩ ⟨s,0,none⟩ 153 w (Tryz.b0l ⟨g,0,none⟩) (Tryz.b7f ⟨s,0,none⟩)
 rw [hR,Sem.run_bind,b6m s p _ w h0 h1]
 simp only [Result.andThen]
 rw [Sem.run_bind,Tryz.b5k w]
 simp only [Result.andThen,if_true]
 rw [Sem.run_bind,b5e g p t u x y w g0 g1 f0 f1]
 rfl
set_option maxRecDepth 1000000 in
set_option maxHeartbeats 1600000 in
theorem as_at (g v:Nat) (p:Int) (t:TypeId) (u x y:Value) (w:World) (hv:w.cell? ⟨v,0,none⟩=some (.pointer (some ⟨g,0,none⟩))) (hvl:v<w.heap.size) (hgl:g<w.heap.size) (g0:w.cell? ⟨g,0,none⟩=some x) (g1:w.cell? ⟨g,1,none⟩=some y) (f0:w.frozen? ⟨g,0,none⟩=false) (f1:w.frozen? ⟨g,1,none⟩=false) :
  Calls Tryz.prog 217 #[.iface 247 (.agg #[.int .i64 p,.iface t u]),.iface 249 (.pointer (some ⟨g,0,none⟩)),.agg #[.pointer (some ⟨9,249,none⟩),.pointer (some ⟨v,0,none⟩),.int .u64 150],.iface 252 (.agg #[.pointer (some ⟨9,247,none⟩)])] w
   fun e w'=>e=.returned (.bool true)∧w'.cell? ⟨g,0,none⟩=some (.int .i64 p)∧Below g w w':=by
 have tA:=Tryz.b4a
 have mA:=Tryz.a4f
 have aA:=Tryz.b5s
 have vA:=Tryz.b24
 obtain ⟨W,hW⟩:∃ W,W=((w.alloc (.cells #[.pointer (some ⟨9,249,none⟩),.pointer (some ⟨v,0,none⟩),.int .u64 150] 279)).alloc (.cells #[.int .i64 p,.iface t u] 247)):=⟨_,rfl⟩
 have hB:=a09 w (.cells #[.pointer (some ⟨9,249,none⟩),.pointer (some ⟨v,0,none⟩),.int .u64 150] 279) (.cells #[.int .i64 p,.iface t u] 247)
 have hel:=elem_run ⟨v,0,none⟩ ⟨g,0,none⟩ (w.alloc (.cells #[.pointer (some ⟨9,249,none⟩),.pointer (some ⟨v,0,none⟩),.int .u64 150] 279)) (((a00 w _).cell (p:=⟨v,0,none⟩) hvl).trans hv)
 have hset:=b7j g (w.heap.size+1) p t u x y ((w.alloc (.cells #[.pointer (some ⟨9,249,none⟩),.pointer (some ⟨v,0,none⟩),.int .u64 150] 279)).alloc (.cells #[.int .i64 p,.iface t u] 247)) (by simp) (by simp) ((hB.cell (p:=⟨g,0,none⟩) hgl).trans g0) ((hB.cell (p:=⟨g,1,none⟩) hgl).trans g1) ((hB.frozen (p:=⟨g,0,none⟩) hgl).trans f0) ((hB.frozen (p:=⟨g,1,none⟩) hgl).trans f1)
 have HB:Hid _:=hB
 clear hB hW W
 go_enter Tryz.func217,Tryz.ntmps217
 go_wp2
 refine wp_loop_rounds 1 ?_
 rw [rounds_succ]
 go_wp2
 go_ret
 refine ⟨rfl,?_,?_⟩
 ·rw [(a09 _ _ _).cell (p:=⟨g,0,none⟩) (by simpa using hgl)]
  go_simp
 ·exact ((((Below.refl g w).setCell (Nat.le_refl _) _).setCell (Nat.le_refl _) _).alloc (by simp;omega) _).alloc (by simp;omega) _
set_option maxRecDepth 1000000 in
set_option maxHeartbeats 1600000 in
theorem b85 (g v:Nat) (a:Addr) (s:ByteArray) (w:World) :
  Calls Tryz.prog 217 #[.iface 208 (.agg #[.string s,.iface 298 (.pointer (some a))]),.iface 249 (.pointer (some ⟨g,0,none⟩)),.agg #[.pointer (some ⟨9,249,none⟩),.pointer (some ⟨v,0,none⟩),.int .u64 150],.iface 252 (.agg #[.pointer (some ⟨9,247,none⟩)])] w
   fun e w'=>e=.returned (.bool false)∧Below w.heap.size w w':=by
 have tW:=Tryz.b3z
 have tE:=Tryz.a5v
 have mA:=Tryz.a4f
 have aW:=Tryz.b29
 have aE:=Tryz.b1t
 have nE:=Tryz.noAsE
 have nW:=Tryz.noAsW
 have uW:=Tryz.a3q
 have mW:=Tryz.a2a
 have uE:=Tryz.a88
 have vE:=Tryz.a6s
 go_enter Tryz.func217,Tryz.ntmps217
 go_wp2
 refine wp_loop_rounds 2 ?_
 rw [rounds_succ]
 go_wp2
 rw [rounds_succ]
 go_wp2
 go_ret
 exact ⟨rfl,a09 _ _ _⟩
set_option maxRecDepth 1000000 in
set_option maxHeartbeats 1600000 in
theorem b81 (g:Nat) (w:World) :
  Calls Tryz.prog 186 #[.nilIface,.iface 249 (.pointer (some ⟨g,0,none⟩))] w fun e w'=>e=.returned (.bool false)∧w'=w:=by
 go_enter Tryz.func186,Tryz.ntmps186
 go_wp2
 go_ret
 exact ⟨rfl,rfl⟩
end Go.Proofs.YtabecbjfamphbaaGreatDoor
