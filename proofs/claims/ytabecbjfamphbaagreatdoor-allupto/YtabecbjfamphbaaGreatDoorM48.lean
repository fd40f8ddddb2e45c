/- A part of the proof. -/
import Derived.Test.YtabecbjfamphbaaGreatDoorM47
namespace Go.Proofs.YtabecbjfamphbaaGreatDoor
open Go.RowKit Go.Stop Go.Extern
set_option maxRecDepth 100000
set_option maxHeartbeats 4000000
theorem Ops.cells {w y:World} {z:Nat} {ad:Option Addr} {ops:List Opp} (h:Ops w z ad ops) (hb:Below z w y) {k:Nat} {o:Opp} (hk:ops[k]?=some o):∃ b off,ad=some ⟨b,off,none⟩∧y.cell? ⟨b,off+k * 15,none⟩=some (.int .i64 o.K)∧y.cell? ⟨b,off+k * 15+1,none⟩=some (.int .i64 o.on)∧y.cell? ⟨b,off+k * 15+2,none⟩=some (.int .i64 o.a)∧y.cell? ⟨b,off+k * 15+3,none⟩=some (.string o.s)∧y.cell? ⟨b,off+k * 15+4,none⟩=some (.int .i64 o.N)∧y.cell? ⟨b,off+k * 15+5,none⟩=some (.int .i64 o.W)∧y.cell? ⟨b,off+k * 15+6,none⟩=some (.int .i64 o.B)∧y.cell? ⟨b,off+k * 15+7,none⟩=some (.int .i64 o.L)∧y.cell? ⟨b,off+k * 15+8,none⟩=some (.int .i64 o.f0)∧y.cell? ⟨b,off+k * 15+9,none⟩=some (.int .i64 o.f1)∧y.cell? ⟨b,off+k * 15+10,none⟩=some (.int .i64 o.f2)∧y.cell? ⟨b,off+k * 15+11,none⟩=some (.int .i64 o.f3)∧y.cell? ⟨b,off+k * 15+12,none⟩=some (.int .i64 o.f4)∧y.cell? ⟨b,off+k * 15+13,none⟩=some (.slice o.fa o.fl o.fc)∧y.cell? ⟨b,off+k * 15+14,none⟩=some (.string o.fb):=by
 obtain ⟨b,off,e,hbz,hc⟩:=h.at' k o hk
 have hy:∀ j,j<15→y.cell? ⟨b,off+k * 15+j,none⟩=o.cells[j]?:=fun j hj=>(hb.cell (p:=⟨b,off+k * 15+j,none⟩) hbz).trans (hc j hj)
 exact ⟨b,off,e,hy 0 (by omega),hy 1 (by omega),hy 2 (by omega),hy 3 (by omega),hy 4 (by omega),hy 5 (by omega),hy 6 (by omega),hy 7 (by omega),hy 8 (by omega),hy 9 (by omega),hy 10 (by omega),hy 11 (by omega),hy 12 (by omega),hy 13 (by omega),hy 14 (by omega)⟩
theorem an5 (lo hi:Int) (A:Nat→Addr) (ad:Option Addr) (cap:Nat) (ops:List Opp) (hl:ops.length≤200000) (w:World) (hw:Sl w A w.heap.size) (hs:Ops w w.heap.size ad ops)
  (hbg:Calls Tryz.prog 36 #[.int .i64 lo,.int .i64 hi] w fun e w'=>e=.returned (.bool true)∧Below w.heap.size w w')
  (hst:∀ (wb t:Nat) (ks:List Kn) (ns:List Wb) (O:Nat→Prop) (F:Bool × Nat→Nat→Prop) (o:Opp) (w0 z:World),lo≤o.K∧o.K≤hi→o.Ok w0→Below w.heap.size w w0→Kp2 (fun j=>j<w.heap.size) w0 z→t≤200000→o∈ops→LW A w.heap.size (fun j=>j<w.heap.size) z wb t t t ks ns O F→Calls Tryz.prog 37 #[.pointer (some ⟨wb,0,none⟩),.agg #[.int .i64 o.K,.int .i64 o.on,.int .i64 o.a,.string o.s,.int .i64 o.N,.int .i64 o.W,.int .i64 o.B,.int .i64 o.L,.int .i64 o.f0,.int .i64 o.f1,.int .i64 o.f2,.int .i64 o.f3,.int .i64 o.f4,.slice o.fa o.fl o.fc,.string o.fb]] z fun e w'=>e=.returned (.bool true)∧SW A w.heap.size (fun j=>j<w.heap.size) wb (t+1) z w') :
  Calls Tryz.prog 11 #[.slice ad ops.length cap,.int .i64 lo,.int .i64 hi] w fun e w'=>e=.returned (.bool true)∧Below w.heap.size w w':=by
 have HB:Hid _:=hbg
 have HSt:Hid (∀ w1,Below w.heap.size w w1→SW A w.heap.size (fun j=>j<w.heap.size) w1.heap.size 0 (w1.alloc (.cells #[.slice none 0 0,.slice none 0 0,.slice none 0 0,.slice none 0 0,.slice none 0 0,.slice none 0 0] 79)) (w1.alloc (.cells #[.slice none 0 0,.slice none 0 0,.slice none 0 0,.slice none 0 0,.slice none 0 0,.slice none 0 0] 79))):=fun w1 hb=>by
  have hsz:=hb.size
  have hbb:Below w.heap.size w (w1.alloc (.cells #[.slice none 0 0,.slice none 0 0,.slice none 0 0,.slice none 0 0,.slice none 0 0,.slice none 0 0] 79)):=hb.trans ((a00 _ _).mono hsz)
  exact ⟨⟨_,_,_,_,LW.start (hw.low hbb) (heap_alloc_new _ _) (fun j hj=>hj) (fun j hj=>by simp;omega) (by omega)⟩,⟨fun _ _=>rfl,Nat.le_refl _,rfl,rfl,rfl⟩⟩
 have HSp:Hid (∀ wb t X y z o,t<ops.length→ops[t]?=some o→(lo≤o.K∧o.K≤hi)→SW A w.heap.size (fun j=>j<w.heap.size) wb t X y→Below w.heap.size w X→Below y.heap.size y z→Calls Tryz.prog 37 #[.pointer (some ⟨wb,0,none⟩),.agg #[.int .i64 o.K,.int .i64 o.on,.int .i64 o.a,.string o.s,.int .i64 o.N,.int .i64 o.W,.int .i64 o.B,.int .i64 o.L,.int .i64 o.f0,.int .i64 o.f1,.int .i64 o.f2,.int .i64 o.f3,.int .i64 o.f4,.slice o.fa o.fl o.fc,.string o.fb]] z fun e w'=>e=.returned (.bool true)∧SW A w.heap.size (fun j=>j<w.heap.size) wb (t+1) X w'):=fun wb t X y z o ht ho hK hy hX hyz=>by
  obtain ⟨⟨ks,ns,O,F,hL⟩,hk⟩:=hy
  refine (hst wb t ks ns O F o X z hK ((hs.ok o (List.mem_of_getElem? ho)).below hX) hX (hk.trans (hL.same hyz).kp) (by omega) (List.mem_of_getElem? ho) (hL.low hyz)).mono ?_
  rintro e w' ⟨rfl,h2,h3⟩
  exact ⟨rfl,h2,(hk.trans (hL.same hyz).kp).trans h3⟩
 have HLk:Hid (∀ wb t X y,t≤ops.length→SW A w.heap.size (fun j=>j<w.heap.size) wb t X y→Calls Tryz.prog 38 #[.pointer (some ⟨wb,0,none⟩)] y fun e w'=>e=.returned (.bool true)∧SW A w.heap.size (fun j=>j<w.heap.size) wb t X w'):=fun wb t X y ht hy=>by
  obtain ⟨⟨ks,ns,O,F,hL⟩,hk⟩:=hy
  refine (hL.bk.looks (by omega)).mono ?_
  rintro e w' ⟨rfl,hb⟩
  exact ⟨rfl,⟨ks,ns,O,F,hL.low hb⟩,hk.trans (hL.same hb).kp⟩
 have HMo:Hid (∀ wb t X y z,SW A w.heap.size (fun j=>j<w.heap.size) wb t X y→Below y.heap.size y z→SW A w.heap.size (fun j=>j<w.heap.size) wb (t+1) X z):=fun wb t X y z hy hyz=>by
  obtain ⟨⟨ks,ns,O,F,hL⟩,hk⟩:=hy
  exact ⟨⟨ks,ns,O,F,(hL.low hyz).more (Nat.le_succ _) (Nat.le_succ _) (Nat.le_succ _)⟩,hk.trans (hL.same hyz).kp⟩
 have HBl:Hid (∀ wb t X y,SW A w.heap.size (fun j=>j<w.heap.size) wb t X y→Below w.heap.size w X→Below w.heap.size w y):=fun wb t X y hy hX=>hX.trans (hy.2.below (z:=w.heap.size) (fun j hj=>hj))
 have HOp:Hid (∀ y k o,Below w.heap.size w y→ops[k]?=some o→_):=fun y k o hy hk=>hs.cells hy hk
 clear hw hs hbg hst
 go_enter Tryz.func11,Tryz.ntmps11
 go_wp2_with fail
 refine (show Calls _ _ _ _ _ from HB.out).mono ?_
 rintro e w1 ⟨rfl,hb1⟩
 have HS0:Hid _:=HSt.out w1 hb1
 have HBX:Hid (Below w.heap.size w (w1.alloc (.cells #[.slice none 0 0,.slice none 0 0,.slice none 0 0,.slice none 0 0,.slice none 0 0,.slice none 0 0] 79))):=hb1.trans ((a00 _ _).mono hb1.size)
 clear hb1
 go_wp2_with fail
 generalize w1.alloc (.cells #[.slice none 0 0,.slice none 0 0,.slice none 0 0,.slice none 0 0,.slice none 0 0,.slice none 0 0] 79)=X at *
 go_loopw [9] (fun c wr=>∃ k:Nat,k≤ops.length∧c=.int .i64 k∧SW A w.heap.size (fun j=>j<w.heap.size) w1.heap.size k X wr) (fun c _=>ops.length-(intOf c).toNat)
 case atStart=>exact ⟨0,Nat.zero_le _,rfl,HS0.out⟩
 case round =>
  obtain ⟨k,hkn,rfl,hr⟩:=hrel
  have HR:Hid _:=hr
  clear hr
  by_cases hlt:k<ops.length
  ·have hki:(k:Int)<(ops.length:Int):=by omega
   have hk6:(k:Int)<1152921504606846976:=by omega
   have hk7:decide ((k:Int)<1152921504606846976)=true:=decide_eq_true hk6
   obtain ⟨o,hok⟩:∃ o,ops[k]?=some o:=⟨ops[k],List.getElem?_eq_getElem _⟩
   obtain ⟨b,off,rfl,t0,t1,t2,t3,t4,t5,t6,t7,t8,t9,t10,t11,t12,t13,t14⟩:=HOp.out wr k o (HBl.out _ _ _ _ HR.out HBX.out) hok
   have HOk:Hid (ops[k]?=some o):=hok
   have HSo:Hid (lo≤o.K∧o.K≤hi→∀ z,Below wr.heap.size wr z→Calls Tryz.prog 37 #[.pointer (some ⟨w1.heap.size,0,none⟩),.agg #[.int .i64 o.K,.int .i64 o.on,.int .i64 o.a,.string o.s,.int .i64 o.N,.int .i64 o.W,.int .i64 o.B,.int .i64 o.L,.int .i64 o.f0,.int .i64 o.f1,.int .i64 o.f2,.int .i64 o.f3,.int .i64 o.f4,.slice o.fa o.fl o.fc,.string o.fb]] z fun e w'=>e=.returned (.bool true)∧SW A w.heap.size (fun j=>j<w.heap.size) w1.heap.size (k+1) X w'):=fun hK z hz=>HSp.out _ _ _ _ _ o hlt hok hK HR.out HBX.out hz
   obtain ⟨K,on,oa,ox,N,W,B,L,f0,f1,f2,f3,f4,fa,fl,fc,fs⟩:=o
   simp only at t0 t1 t2 t3 t4 t5 t6 t7 t8 t9 t10 t11 t12 t13 t14 HSo
   clear hok
   by_cases hin:lo≤K∧K≤hi
   ·have hb1:decide (K<lo)=false:=decide_eq_false (by omega)
    have hb2:decide (hi<K)=false:=decide_eq_false (by omega)
    have HSz:Hid _:=HSo.out hin
    clear hin
    go_wp2_with fail
    refine (show Calls _ _ _ _ _ from HSz.out _ (a00 _ _)).mono ?_
    rintro e w2 ⟨rfl,hs2⟩
    have HLo:Hid _:=HLk.out _ _ _ _ (by omega) hs2
    clear hs2
    go_wp2_with fail
    refine (show Calls _ _ _ _ _ from HLo.out).mono ?_
    rintro e w3 ⟨rfl,hs3⟩
    have HS3:Hid _:=hs3
    clear hs3
    go_wp2_with fail
    go_roundw
    case rel=>exact ⟨k+1,by omega,by go_num,HS3.out⟩
    case measure=>simp [intOf];omega
   ·have hS3:=HMo.out _ _ _ _ _ HR.out (a00 wr (.cells #[.int .i64 K,.int .i64 on,.int .i64 oa,.string ox,.int .i64 N,.int .i64 W,.int .i64 B,.int .i64 L,.int .i64 f0,.int .i64 f1,.int .i64 f2,.int .i64 f3,.int .i64 f4,.slice fa fl fc,.string fs] 81))
    have HS3:Hid _:=hS3
    clear hS3
    by_cases hk1:K<lo
    ·have hb1:decide (K<lo)=true:=decide_eq_true hk1
     go_wp2_with fail
     go_roundw
     case rel=>exact ⟨k+1,by omega,by go_num,HS3.out⟩
     case measure=>simp [intOf];omega
    ·have hb1:decide (K<lo)=false:=decide_eq_false hk1
     have hk2:hi<K:=by omega
     have hb2:decide (hi<K)=true:=decide_eq_true hk2
     go_wp2_with fail
     go_roundw
     case rel=>exact ⟨k+1,by omega,by go_num,HS3.out⟩
     case measure=>simp [intOf];omega
  ·have hkn':k=ops.length:=by omega
   subst hkn'
   have HBe:Hid _:=HBl.out _ _ _ _ HR.out HBX.out
   go_wp2_with fail
   go_ret
   exact ⟨rfl,HBe.out⟩
theorem b0p (A:Nat→Addr) (ad:Option Addr) (cap:Nat) (ops:List Opp) (hl:ops.length≤200000) (w:World) (hw:Sl w A w.heap.size) (hT:ErrT w) (hs:Ops w w.heap.size ad ops) (hvk:∀ o∈ops,o.fl≤1048576∧(o.fa=none→o.fl=0∧o.fc=0)) :
  Calls Tryz.prog 10 #[.slice ad ops.length cap] w fun e w'=>e=.returned (.bool true)∧Below w.heap.size w w':=by
 have HP:Hid _:=an5 1 31 A ad cap ops hl w hw hs (ay4 A w.heap.size w hw (Nat.le_refl _)) (fun wb t ks ns O F o w0 z hK ho hb0 hkz ht hm hL=>by
  have hbz:Below w.heap.size w z:=hb0.trans (hkz.below (z:=w.heap.size) (fun j hj=>hj))
  obtain ⟨vs,hvs,_⟩:=(hs.ok o hm).vec
  have hV:VecIs w o.fa o.fl o.fc vs:=⟨hvs,by have:=(hvk o hm).1;omega,(hvk o hm).2⟩
  exact b1b A w.heap.size _ wb t ks ns O F o vs hK w0 ho (by omega) z (hV.below hbz) (hT.below hbz) hL)
 clear hw hs
 go_enter Tryz.func10,Tryz.ntmps10
 go_wp2_with fail
 refine (show Calls _ _ _ _ _ from HP.out).mono ?_
 rintro e w1 ⟨rfl,hb⟩
 have HB:Hid _:=hb
 clear hb
 go_wp2_with fail
 go_ret
 exact ⟨rfl,HB.out⟩
end Go.Proofs.YtabecbjfamphbaaGreatDoor
