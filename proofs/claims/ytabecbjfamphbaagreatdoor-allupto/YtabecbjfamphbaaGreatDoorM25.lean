/- A part of the proof. -/
import Derived.Test.YtabecbjfamphbaaGreatDoorM24
import Derived.Test.YtabecbjfamphbaaGreatDoorM22
import Derived.LaidHandle
namespace Go.Proofs.YtabecbjfamphbaaGreatDoor
open Go.RowKit Go.Stop Go.Extern
set_option maxRecDepth 100000
def ErrT (w:World):Prop:=w.cell? ⟨8,0,none⟩=some (.iface 252 (.agg #[.pointer (some ⟨9,98,none⟩)]))
theorem ErrT.below {w w':World} (h:ErrT w) (hb:Below w.heap.size w w'):ErrT w':=by
 unfold ErrT at *
 exact (hb.cell (lt_of_cell h)).trans h
set_option maxRecDepth 1000000 in
set_option maxHeartbeats 3200000 in
theorem As_at (g:Nat) (p:Int) (t:TypeId) (u x y:Value) (w:World) (hT:ErrT w) (hgl:g<w.heap.size) (g0:w.cell? ⟨g,0,none⟩=some x) (g1:w.cell? ⟨g,1,none⟩=some y) (f0:w.frozen? ⟨g,0,none⟩=false) (f1:w.frozen? ⟨g,1,none⟩=false) :
  Calls Tryz.prog 186 #[.iface 247 (.agg #[.int .i64 p,.iface t u]),.iface 249 (.pointer (some ⟨g,0,none⟩))] w
   fun e w'=>e=.returned (.bool true)∧w'.cell? ⟨g,0,none⟩=some (.int .i64 p)∧Below g w w':=by
 have vP:=Tryz.ab3
 have tV:=Tryz.a8x
 have mK:=Tryz.a9v
 have kP:=Tryz.b1e
 have kA:=Tryz.b68
 have mE:=Tryz.aa6
 have eP:=Tryz.b3s
 have mI:=Tryz.a4c
 have iA:=Tryz.a7f
 have hB:=a09 w (.cells #[.pointer (some ⟨g,0,none⟩)] 249) (.cells #[.pointer (some ⟨9,249,none⟩),.pointer (some ⟨w.heap.size,0,none⟩),.int .u64 150] 279)
 have hT2:=(hT.below hB)
 unfold ErrT at hT2
 have hnil:=af6 ⟨w.heap.size,0,none⟩ ⟨g,0,none⟩ ((w.alloc (.cells #[.pointer (some ⟨g,0,none⟩)] 249)).alloc (.cells #[.pointer (some ⟨9,249,none⟩),.pointer (some ⟨w.heap.size,0,none⟩),.int .u64 150] 279)) (by simp)
 have HB:Hid _:=hB
 have HT:Hid (ErrT w):=hT
 clear hB hT
 go_enter Tryz.func186,Tryz.ntmps186
 go_wp2_with fail
 refine (as_at g w.heap.size p t u x y _ (by simp) (by simp;omega) (by simp;omega) ((HB.out.cell (p:=⟨g,0,none⟩) hgl).trans g0) ((HB.out.cell (p:=⟨g,1,none⟩) hgl).trans g1) ((HB.out.frozen (p:=⟨g,0,none⟩) hgl).trans f0) ((HB.out.frozen (p:=⟨g,1,none⟩) hgl).trans f1)).mono ?_
 rintro e w' ⟨rfl,hc,hb⟩
 have HC:Hid _:=hc
 have HB2:Hid _:=hb
 clear hc hb
 go_wp2
 go_ret
 exact ⟨rfl,HC.out,(HB.out.mono (by omega)).trans HB2.out⟩
set_option maxRecDepth 1000000 in
set_option maxHeartbeats 3200000 in
theorem b8i (g:Nat) (a:Addr) (s:ByteArray) (w:World) (hT:ErrT w) :
  Calls Tryz.prog 186 #[.iface 208 (.agg #[.string s,.iface 298 (.pointer (some a))]),.iface 249 (.pointer (some ⟨g,0,none⟩))] w
   fun e w'=>e=.returned (.bool false)∧Below w.heap.size w w':=by
 have vP:=Tryz.ab3
 have tV:=Tryz.a8x
 have mK:=Tryz.a9v
 have kP:=Tryz.b1e
 have kA:=Tryz.b68
 have mE:=Tryz.aa6
 have eP:=Tryz.b3s
 have mI:=Tryz.a4c
 have iA:=Tryz.a7f
 have hB:=a09 w (.cells #[.pointer (some ⟨g,0,none⟩)] 249) (.cells #[.pointer (some ⟨9,249,none⟩),.pointer (some ⟨w.heap.size,0,none⟩),.int .u64 150] 279)
 have hT2:=(hT.below hB)
 unfold ErrT at hT2
 have hnil:=af6 ⟨w.heap.size,0,none⟩ ⟨g,0,none⟩ ((w.alloc (.cells #[.pointer (some ⟨g,0,none⟩)] 249)).alloc (.cells #[.pointer (some ⟨9,249,none⟩),.pointer (some ⟨w.heap.size,0,none⟩),.int .u64 150] 279)) (by simp)
 have HB:Hid _:=hB
 clear hB hT
 go_enter Tryz.func186,Tryz.ntmps186
 go_wp2_with fail
 refine (b85 g w.heap.size a s _).mono ?_
 rintro e w' ⟨rfl,hb⟩
 have HB2:Hid _:=hb
 clear hb
 go_wp2
 go_ret
 exact ⟨rfl,bthen HB.out HB2.out⟩
set_option maxHeartbeats 800000 in
theorem b28 (w:World):Calls Tryz.prog 141 #[.nilIface] w fun e w'=>e=.returned (.int .i64 0)∧Below w.heap.size w w':=by
 go_enter Tryz.func141,Tryz.ntmps141
 go_wp2_with (go_at_call 186;refine (b81 _ _).mono ?_;rintro e w' ⟨rfl,rfl⟩)
 go_ret
 exact ⟨rfl,a00 _ _⟩
set_option maxHeartbeats 800000 in
theorem b1l (a:Addr) (s:ByteArray) (w:World) (hT:ErrT w):Calls Tryz.prog 141 #[.iface 208 (.agg #[.string s,.iface 298 (.pointer (some a))])] w fun e w'=>e=.returned (.int .i64 0)∧Below w.heap.size w w':=by
 have HT:Hid (ErrT w):=hT
 clear hT
 go_enter Tryz.func141,Tryz.ntmps141
 go_wp2_with fail
 refine (b8i _ a s _ (HT.out.below (a00 _ _))).mono ?_
 rintro e w' ⟨rfl,hb⟩
 have HB:Hid _:=hb
 clear hb
 go_wp2
 go_ret
 exact ⟨rfl,bthen (a00 _ _) HB.out⟩
set_option maxHeartbeats 800000 in
theorem b5j (p:Int) (t:TypeId) (u:Value) (w:World) (hT:ErrT w):Calls Tryz.prog 141 #[.iface 247 (.agg #[.int .i64 p,.iface t u])] w fun e w'=>e=.returned (.int .i64 p)∧Below w.heap.size w w':=by
 have HT:Hid (ErrT w):=hT
 clear hT
 go_enter Tryz.func141,Tryz.ntmps141
 go_wp2_with fail
 refine (As_at w.heap.size p t u (.int .i64 0) .nilIface _ (HT.out.below (a00 _ _)) (by simp) (by simp) (by simp) (by simp) (by simp)).mono ?_
 rintro e w' ⟨rfl,hc,hb⟩
 have HB:Hid _:=hb
 clear hb
 go_wp2
 go_ret
 exact ⟨rfl,(a00 _ _).trans HB.out⟩
theorem b7x {W:World} (h:laidMetH Tryz.prog Rows.boundedRow.laid W):(∃ A,Sl W A W.heap.size)∧ErrT W:=by
 obtain ⟨h1,h2⟩:=laidMetH_iff.1 h
 constructor
 ·have e:(Rows.boundedRow.laid.filter fun x=>x.2.handleName?.isNone)=Rows.causalRow.laid:=by kernel_rfl
  rw [e] at h1
  obtain ⟨A,hA⟩:=b4k h1
  exact ⟨A,hA,fun k h1 h2=>⟨lt_of_cell (hA.c k h1 h2),by
   obtain ⟨ca,ta,e⟩:=hA.b k h1 h2
   exact lt_of_some e⟩⟩
 ·have h3 := h2 ("errors.errorType", Rows.laid_errors_errorType) (by
   have e : (Rows.boundedRow.laid.filter fun x => x.2.handleName?.isSome) = [("errors.errorType", Rows.laid_errors_errorType)] := by kernel_rfl
   rw [e]
   exact List.mem_singleton.2 rfl)
  have e0:(Rows.laid_errors_errorType:DataW Unit).funcsIn?=none:=by kernel_rfl
  simp only [e0] at h3
  obtain ⟨name,u,ty,hn,hu,hlt,hrow,hv⟩:=h3
  have en:(Rows.laid_errors_errorType:DataW Unit).handleName?=some [101,114,114,111,114]:=by kernel_rfl
  rw [en] at hn
  cases hn
  have eu : (Tryz.prog.cutTypes.find? (·.1 == "internal/reflectlite.rtype")).map (·.2) = some 252 := by kernel_rfl
  rw [eu] at hu
  cases hu
  have hall:((List.range Tryz.prog.types.size).all fun t=>!Tryz.prog.rowNamed t [101,114,114,111,114] || t == 98)=true:=by kernel_rfl
  have hty:ty=98:=by
   have:=List.all_eq_true.1 hall ty (List.mem_range.2 hlt)
   rw [hrow] at this
   simpa using this
  subst hty
  have hc:=ad8 (g:=8) (by kernel_rfl) hv
  have e:typeHandle Tryz.prog 98=.pointer (some ⟨9,98,none⟩):=by kernel_rfl
  rw [e] at hc
  exact hc
structure Opp where
 K:Int
 on:Int
 a:Int
 s:ByteArray
 N:Int
 W:Int
 B:Int
 L:Int
 f0:Int
 f1:Int
 f2:Int
 f3:Int
 f4:Int
 fa:Option Addr
 fl:Nat
 fc:Nat
 fb:ByteArray
structure Opp.Ok (w:World) (o:Opp):Prop where
 K:I64 o.K
 on:I64 o.on
 a:I64 o.a
 c:I64 o.N∧I64 o.W∧I64 o.B∧I64 o.L
 f:I64 o.f0∧I64 o.f1∧I64 o.f2∧I64 o.f3∧I64 o.f4
 vec:∃ vs,Ints w o.fa o.fl vs∧∀ v∈vs,I64 v
 s:o.s.size≤maxLen
 b:o.fb.size≤maxLen
theorem Opp.Ok.below {w y:World} {o:Opp} (h:o.Ok w) (hb:Below w.heap.size w y):o.Ok y:=⟨h.K,h.on,h.a,h.c,h.f,by
 obtain ⟨vs,h1,h2⟩:=h.vec
 exact ⟨vs,h1.below hb,h2⟩,h.s,h.b⟩
def Opp.cells (o:Opp):List Value:=[.int .i64 o.K,.int .i64 o.on,.int .i64 o.a,.string o.s,.int .i64 o.N,.int .i64 o.W,.int .i64 o.B,.int .i64 o.L,.int .i64 o.f0,.int .i64 o.f1,.int .i64 o.f2,.int .i64 o.f3,.int .i64 o.f4,.slice o.fa o.fl o.fc,.string o.fb]
instance :Inhabited Opp:=⟨⟨0,0,0,⟨#[]⟩,0,0,0,0,0,0,0,0,0,none,0,0,⟨#[]⟩⟩⟩
structure Ops (w:World) (z:Nat) (ad:Option Addr) (ops:List Opp):Prop where
 ok:∀ o∈ops,o.Ok w
 at':∀ i o,ops[i]?=some o→∃ b off,ad=some ⟨b,off,none⟩∧b<z∧∀ j,j<15→w.cell? ⟨b,off+i * 15+j,none⟩=o.cells[j]?
end Go.Proofs.YtabecbjfamphbaaGreatDoor
