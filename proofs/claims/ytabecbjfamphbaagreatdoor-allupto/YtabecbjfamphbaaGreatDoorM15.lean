/- A part of the proof. -/
import Derived.Test.YtabecbjfamphbaaGreatDoorM14
namespace Go.Proofs.YtabecbjfamphbaaGreatDoor
open Go.RowKit Go.Stop Go.Extern
set_option maxRecDepth 100000
theorem a4v (a0 a1:Addr) (p:Int) (s:ByteArray) (w:World) (hw:Sent w a0 a1) :
  Calls Tryz.prog 209 #[.int .i64 p,.string s] w fun e w'=>(∃ v,e=.returned v∧IsF a1 v (some (some p)))∧w'=w:=
 (a0n a0 a1 p s w hw).mono fun _ _ ⟨h1,h2⟩=>⟨⟨_,h1,IsF.at a1 _ _⟩,h2⟩
set_option maxHeartbeats 2000000 in
theorem ac0 (a0 a1:Addr) (n:Nat) (W B L F:Int) (s e0:ByteArray) (he0:e0.size=0) (w:World) (hw:Sent w a0 a1) (hG:okG n W B L=true) (hs:s.size≤maxLen) (hl:9+2 * n≤s.size) :
  Calls Tryz.prog 212 #[.agg #[.int .i64 (n:Int),.int .i64 W,.int .i64 B,.int .i64 L],.string s,.agg #[.int .i64 2,.int .i64 F,.int .i64 0,.int .i64 0,.int .i64 0,.slice none 0 0,.string e0]] w
   fun e w'=>(∃ fv v,e=.returned (.tuple #[fv,v])∧FrV fv∧IsF a1 v (a2e n L s)∧(a2e n L s=none→Got w' w.heap.size n 2 F 0 0 0 (vecOf s 5 n) e0 fv))∧Below w.heap.size w w':=by
 have HW:Hid (Sent w a0 a1):=hw
 have HS:Hid (s.size≤maxLen):=hs
 have HG:Hid (okG n W B L=true):=hG
 have HE0:Hid (e0.size=0):=he0
 clear he0
 obtain ⟨h1,h2,h3,h4,h5,h6,h7,h8⟩:=a0u.1 hG
 unfold maxLen at hs
 clear hw hG
 go_enter Tryz.func212,Tryz.ntmps212
 go_wp2_with fail
 refine (a3n n W B L h1 h2 _).mono ?_
 rintro e w1 ⟨rfl,hb⟩
 have HB:Hid _:=hb
 have hc1:=(bcell hb).1
 have hf1:=(bcell hb).2
 have HBA:Hid (Below w.heap.size w w1):=bthen ((a09 _ _ _).alloc (by simp;omega) _) hb
 have HBX1:Hid _:=((a0x w n W B L 2 F 0 0 0 none 0 0 e0 26 45).below (a00 _ _) (by simp)).below hb (by simp)
 have HRm1:Hid (Room w.heap.size w1):=(aa2 w _ _ #[.int .i64 0,.int .i64 0,.int .i64 0,.int .i64 0,.int .i64 0,.slice none 0 0,.string { data:=#[] }] 45 45 rfl).below hb (by simp)
 have hz2:w.heap.size+1+1<w1.heap.size:=by have:=hb.size;simp at this;omega
 have hz1:w.heap.size+1<w1.heap.size:=by omega
 have hz0:w.heap.size<w1.heap.size:=by omega
 clear hb
 by_cases c1:(s.size:Int)=9+2 * n
 ·have HR:Hid (a2e n L s=rVec n L 2 0 0 (vecOf s 5 n)):=if_pos c1
  have c1b:((s.size:Int) != 9+2 * (n:Int))=false:=by simp [c1]
  clear c1
  go_wp2_with fail
  refine (a5b n W B L s 5 5 rfl _ (by omega) (by omega) HS.out (by omega)).mono ?_
  rintro e w2 ⟨rfl,hr,hb2⟩
  have HB2:Hid (Below w1.heap.size w1 w2):=hb2
  have hc2:=(bcell hb2).1
  have hf2:=(bcell hb2).2
  have HR2:Hid (RowI w2 (w1.heap.size+1) (vecOf s 5 n)):=hr
  have hy2:w.heap.size+1+1<w2.heap.size:=by have:=hb2.size;omega
  have hy1:w.heap.size+1<w2.heap.size:=by omega
  have hy0:w.heap.size<w2.heap.size:=by omega
  have BXS:=Boxes.vec (ad':=some ⟨w1.heap.size+1,0,none⟩) (len':=n) (cap':=n) (HBX1.out.below hb2 (by omega))
  have HBXS:Hid _:=BXS
  have HBS:Hid (Below w.heap.size w (w2.setCell ⟨w.heap.size+1,5,none⟩ (.slice (some ⟨w1.heap.size+1,0,none⟩) n n))):=(bthen HBA.out hb2).setCell (by show w.heap.size≤w.heap.size+1;omega) _
  have HRS:Hid (RowI (w2.setCell ⟨w.heap.size+1,5,none⟩ (.slice (some ⟨w1.heap.size+1,0,none⟩) n n)) (w1.heap.size+1) (vecOf s 5 n)):=hr.other _ _ (by show w1.heap.size+1≠w.heap.size+1;omega)
  have HIS:Hid (Ints (w2.setCell ⟨w.heap.size+1,5,none⟩ (.slice (some ⟨w1.heap.size+1,0,none⟩) n n)) (some ⟨w1.heap.size+1,0,none⟩) n (vecOf s 5 n)):=by
   have:=RowI.ints (vs:=vecOf s 5 n) (ms:=[]) (by simpa using HRS.out)
   rw [a06] at this
   exact this
  obtain ⟨cN,cW,cB,cL,cK,cF,cO,cS,cLw,cV,cT,cz⟩:=BXS
  clear hb2 hr
  go_wp2_with fail
  go_region_with (first|(go_at_call 206;refine (a5e a0 a1 n W B L 2 F 0 0 0 (some ⟨w1.heap.size+1,0,none⟩) n n e0 (vecOf s 5 n) _ ?_ ?_ HG.out ?_).mono ?_;exact (HW.out.below HBS.out).drew;exact HIS.out.drew;exact Nat.le_trans (show n≤8 by omega) (by decide);rintro e w4 ⟨⟨vr,rfl,hvr⟩,hb4⟩;have hc4:=(bcell hb4).1;have hf4:=(bcell hb4).2;have HB4:Hid _:=hb4;clear hb4))
  all_goals
   have HE:Hid (a4n n L 2 0 0 0 (vecOf s 5 n) e0.toList.isEmpty=rVec n L 2 0 0 (vecOf s 5 n)):=if_pos ⟨rfl,rfl,rfl,(a2m e0).2 HE0.out⟩
   have HR4:Hid (RowI w4 (w1.heap.size+1) (vecOf s 5 n)):=RowI.below (w:=(w2.setCell ⟨w.heap.size+1,5,none⟩ (.slice (some ⟨w1.heap.size+1,0,none⟩) n n)).drew) HRS.out HB4.out HRS.out.lt
   have HRm4:Hid (Room w.heap.size w4):=((HRm1.out.below HB2.out (by omega)).store 5 _).below (b:=w2.heap.size) ((Below.refl w2.heap.size (w2.setCell ⟨w.heap.size+1,5,none⟩ (.slice (some ⟨w1.heap.size+1,0,none⟩) n n))).drew.trans (HB4.out.mono (by simp [World.setCell]))) (by omega)
   have HB5:Hid (Below w.heap.size w w4):=bthen (HBS.out.drew) HB4.out
   obtain ⟨r0,r1,r2,r3,r4,r5,r6⟩:=Room.seven HRm4.out (.int .i64 2) (.int .i64 F) (.int .i64 0) (.int .i64 0) (.int .i64 0) (.slice (some ⟨w1.heap.size+1,0,none⟩) n n) (.string e0) _ rfl
   go_wp2
   refine bodyPost_ret (v:=.tuple #[.agg #[.int .i64 2,.int .i64 F,.int .i64 0,.int .i64 0,.int .i64 0,.slice (some ⟨w1.heap.size+1,0,none⟩) n n,.string e0],vr]) (by simp [results,Tryz.results212,go_sem,r0,r1,r2,r3,r4,r5,r6]) rfl ⟨⟨_,_,rfl,⟨2,F,0,0,0,_,n,n,e0,rfl⟩,?_,fun _=>⟨⟨_,?_,rfl,HR4.out.set7 (by omega) _ _ _ _ _ _ _⟩⟩⟩,?_⟩
   ·rw [HR.out,←HE.out];exact hvr
   ·omega
   ·exact a0b HB5.out (by omega) _ _ _ _ _ _ _
 ·have HR:Hid (a2e n L s=some (some (s.size:Int))):=if_neg c1
  have c1b:((s.size:Int) != 9+2 * (n:Int))=true:=bne_iff_ne.2 c1
  clear c1
  go_wp2_with fail
  go_region_with (first|(go_at_call 209;refine (a4v a0 a1 _ _ _ ?_).mono ?_;exact ((((HW.out.alloc _).alloc _).alloc _).below HB.out).drew;rintro e w' ⟨⟨vr,rfl,hvr⟩,rfl⟩))
  all_goals
   go_wp2
   refine bodyPost_ret (v:=.tuple #[.agg #[.int .i64 2,.int .i64 F,.int .i64 0,.int .i64 0,.int .i64 0,.slice none 0 0,.string e0],vr]) (by simp [results,Tryz.results212,go_sem,hc1]) rfl ⟨⟨_,_,rfl,⟨2,F,0,0,0,none,0,0,e0,rfl⟩,?_,?_⟩,?_⟩
   ·rw [HR.out];exact hvr
   ·intro h;rw [HR.out] at h;cases h
   ·exact (a0b HBA.out (by omega) _ _ _ _ _ _ _).drew
end Go.Proofs.YtabecbjfamphbaaGreatDoor
