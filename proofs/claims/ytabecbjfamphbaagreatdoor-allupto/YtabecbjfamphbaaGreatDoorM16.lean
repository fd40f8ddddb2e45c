/- A part of the proof. -/
import Derived.Lib.Strings
import Derived.Lib.BufferWrite
import Derived.Lib.UnsafeStr
import Derived.Laws.MakeOwn
import Derived.Test.YtabecbjfamphbaaGreatDoorM15
namespace Go.Proofs.YtabecbjfamphbaaGreatDoor
open Go.RowKit Go.Stop Go.Extern
set_option maxRecDepth 100000
set_option maxHeartbeats 4000000 in
theorem a9d (s:ByteArray) (w:World) (hlim:s.size≤1000) :
  Calls Tryz.prog 187 #[.string s] w fun e w'=>e=.returned (.string s)∧Below w.heap.size w w':=by
 by_cases h0:s.size=0
 ·have hs:s=⟨#[]⟩:=by
   apply ByteArray.ext
   exact Array.eq_empty_of_size_eq_zero h0
  subst hs
  go_enter Tryz.func187,Tryz.ntmps187
  go_wp2
  go_ret
  exact ⟨rfl,Below.refl _ _⟩
 ·obtain ⟨i0,hi,hz0,hz1,hz2⟩:=info_parts Tryz.infoByte
  have hinfo:(Tryz.prog.info? 5).map (·.size)=some 1:=by rw [hi];simp [hz1]
  have hco:Tryz.prog.cellsOf 5=1:=by simp [Program.cellsOf,hi,hz1]
  obtain ⟨M,hM⟩:∃ M,M=madeCells (Value.int .u8 0).cells (((s.size:Nat):Int).toNat * i0.size):=⟨_,rfl⟩
  have hMs:M.size=s.size:=by rw [hM,size_madeCells,hz1];simp
  have hmk:∀ W:World,(Instr.makeSlice 241 (.int .i64 (s.size:Int)) (.int .i64 (s.size:Int))).run Tryz.prog W=.ok (.slice (some ⟨W.heap.size,0,none⟩) s.size s.size) (W.alloc (.cells M 5)):=fun W=>by
   have h:=run_make (P:=Tryz.prog) W 241 5 i0 (.int .u8 0) Tryz.underlying241 hi hz0 .i64 .i64 (s.size:Int) (s.size:Int) (by omega) (by omega) (by rw [hz2];omega) (by omega)
   rw [←hM] at h
   simpa using h
  clear hM
  have hcp:=Lib.run_copy_row_string (P:=Tryz.prog) (w.alloc (.cells M 5)) 241 9 3 5 w.heap.size 0 s.size s.size s M 5 Tryz.underlying241 hinfo (heap_alloc_new w _) (Nat.le_refl _) (by omega)
  obtain ⟨Y,hY⟩:∃ Y,Y=(M.toList.take 0++Lib.byteCells s.data.toList++M.toList.drop (0+s.size)).toArray:=⟨_,rfl⟩
  rw [←hY] at hcp
  have hYl:Y.toList=Lib.byteCells s.data.toList:=by
   rw [hY,List.toList_toArray,List.take_zero,List.nil_append,List.drop_of_length_le (by rw [Array.length_toList];omega),List.append_nil]
  have hYs:Y.size=s.size:=by rw [←Array.length_toList,hYl,Lib.byteCells_length,←Lib.size_eq]
  have hgY:((w.alloc (.cells M 5)).setRow w.heap.size Y).heap[w.heap.size]?=some (.cells Y 5 (0,0)):=setRow_heap _ _ M _ 5 (0,0) (heap_alloc_new w _)
  have hne:s.data.toList≠[]:=fun e=>h0 (by rw [Lib.size_eq,e];rfl)
  have hUS:=Lib.run_unsafeString_row (P:=Tryz.prog) ((w.alloc (.cells M 5)).setRow w.heap.size Y) 296 3 9 5 Tryz.underlying296 hco w.heap.size Y.size (by unfold World.shape?;rw [hgY]) s.data.toList hne (by rw [←Lib.size_eq];omega) (by rw [←Lib.size_eq];omega)
   (fun j x hx=>Lib.cells_of_row hgY Y.size j _ (by rw [List.take_of_length_le (by rw [Array.length_toList];exact Nat.le_refl _),hYl];simp [Lib.byteCells,hx]))
  rw [←Lib.size_eq] at hUS
  clear hY
  go_enter Tryz.func187,Tryz.ntmps187
  go_wp2
  go_ret
  have hb1:Below w.heap.size w (w.alloc (.cells M 5)):=(Below.refl _ w).alloc (Nat.le_refl _) _
  have hb2:Below w.heap.size (w.alloc (.cells M 5)) ((w.alloc (.cells M 5)).setRow w.heap.size Y):=⟨rfl,rfl,rfl,by simp,fun k hk=>setRow_other _ _ _ _ (by omega)⟩
  exact ⟨rfl,Lib.below_freeze (hb1.trans hb2) (p:=⟨w.heap.size,0,none⟩) (Nat.le_refl _) _⟩
theorem Boxes.ori {z:Nat} {x:World} {N W B L K F O S Lw O':Int} {ad:Option Addr} {len cap:Nat} {body:ByteArray} (h:Boxes z x N W B L K F O S Lw ad len cap body) :
  Boxes z (x.setCell ⟨z+1,2,none⟩ (.int .i64 O')) N W B L K F O' S Lw ad len cap body:=by
 obtain ⟨c1,c2,c3,c4,c5,c6,c7,c8,c9,c10,c11,c12⟩:=h
 refine ⟨a0k c1 (by show z≠z+1;omega),a0k c2 (by show z≠z+1;omega),a0k c3 (by show z≠z+1;omega),a0k c4 (by show z≠z+1;omega),?_,?_,?_,?_,?_,?_,?_,?_⟩<;>go_simp
theorem Boxes.seq {z:Nat} {x:World} {N W B L K F O S Lw S':Int} {ad:Option Addr} {len cap:Nat} {body:ByteArray} (h:Boxes z x N W B L K F O S Lw ad len cap body) :
  Boxes z (x.setCell ⟨z+1,3,none⟩ (.int .i64 S')) N W B L K F O S' Lw ad len cap body:=by
 obtain ⟨c1,c2,c3,c4,c5,c6,c7,c8,c9,c10,c11,c12⟩:=h
 refine ⟨a0k c1 (by show z≠z+1;omega),a0k c2 (by show z≠z+1;omega),a0k c3 (by show z≠z+1;omega),a0k c4 (by show z≠z+1;omega),?_,?_,?_,?_,?_,?_,?_,?_⟩<;>go_simp
theorem Boxes.low {z:Nat} {x:World} {N W B L K F O S Lw L':Int} {ad:Option Addr} {len cap:Nat} {body:ByteArray} (h:Boxes z x N W B L K F O S Lw ad len cap body) :
  Boxes z (x.setCell ⟨z+1,4,none⟩ (.int .i64 L')) N W B L K F O S L' ad len cap body:=by
 obtain ⟨c1,c2,c3,c4,c5,c6,c7,c8,c9,c10,c11,c12⟩:=h
 refine ⟨a0k c1 (by show z≠z+1;omega),a0k c2 (by show z≠z+1;omega),a0k c3 (by show z≠z+1;omega),a0k c4 (by show z≠z+1;omega),?_,?_,?_,?_,?_,?_,?_,?_⟩<;>go_simp
theorem Boxes.txt {z:Nat} {x:World} {N W B L K F O S Lw:Int} {ad:Option Addr} {len cap:Nat} {body body':ByteArray} (h:Boxes z x N W B L K F O S Lw ad len cap body) :
  Boxes z (x.setCell ⟨z+1,6,none⟩ (.string body')) N W B L K F O S Lw ad len cap body':=by
 obtain ⟨c1,c2,c3,c4,c5,c6,c7,c8,c9,c10,c11,c12⟩:=h
 refine ⟨a0k c1 (by show z≠z+1;omega),a0k c2 (by show z≠z+1;omega),a0k c3 (by show z≠z+1;omega),a0k c4 (by show z≠z+1;omega),?_,?_,?_,?_,?_,?_,?_,?_⟩<;>go_simp
def a2q (n:Nat) (W B L:Int) (s:ByteArray):Option (Option Int):=
 if (s.size:Int)<15+2 * n then some (some s.size) else
 match rData n W B L 1 (byt s 5) (val s 6 2) (val s 8 2) (vecOf s 10 n) (s.size-(15+2 * n)) with
 | some x=>some x
 | none=>if (byt s (10+2 * n):Int)=((s.size-(15+2 * n):Nat):Int) then none else some (some (10+2 * (n:Int)))
set_option maxHeartbeats 4000000 in
theorem ah9 (a0 a1:Addr) (n:Nat) (W B L F:Int) (s e0:ByteArray) (w:World) (hw:Sent w a0 a1) (hG:okG n W B L=true) (hs:s.size≤maxLen) :
  Calls Tryz.prog 213 #[.agg #[.int .i64 (n:Int),.int .i64 W,.int .i64 B,.int .i64 L],.string s,.agg #[.int .i64 1,.int .i64 F,.int .i64 0,.int .i64 0,.int .i64 0,.slice none 0 0,.string e0]] w
   fun e w'=>(∃ fv v,e=.returned (.tuple #[fv,v])∧FrV fv∧IsF a1 v (a2q n W B L s)∧(a2q n W B L s=none→Got w' w.heap.size n 1 F (byt s 5) (val s 6 2) (val s 8 2) (vecOf s 10 n) (s.extract (11+2 * n) (s.size-4)) fv))∧Below w.heap.size w w':=by
 have HW:Hid (Sent w a0 a1):=hw
 have HS:Hid (s.size≤maxLen):=hs
 have HG:Hid (okG n W B L=true):=hG
 obtain ⟨h1,h2,h3,h4,h5,h6,h7,h8⟩:=a0u.1 hG
 unfold maxLen at hs
 clear hw hG
 go_enter Tryz.func213,Tryz.ntmps213
 go_wp2_with fail
 refine (ad7 n W B L h1 h2 _).mono ?_
 rintro e w1 ⟨rfl,hb⟩
 have HB:Hid _:=hb
 have hc1:=(bcell hb).1
 have hf1:=(bcell hb).2
 have HBA:Hid (Below w.heap.size w w1):=bthen ((a09 _ _ _).alloc (by simp;omega) _) hb
 have HBX1:Hid _:=((a0x w n W B L 1 F 0 0 0 none 0 0 e0 26 45).below (a00 _ _) (by simp)).below hb (by simp)
 have HRm1:Hid (Room w.heap.size w1):=(aa2 w _ _ #[.int .i64 0,.int .i64 0,.int .i64 0,.int .i64 0,.int .i64 0,.slice none 0 0,.string { data:=#[] }] 45 45 rfl).below hb (by simp)
 have hz2:w.heap.size+1+1<w1.heap.size:=by have:=hb.size;simp at this;omega
 have hz1:w.heap.size+1<w1.heap.size:=by omega
 have hz0:w.heap.size<w1.heap.size:=by omega
 clear hb
 by_cases c1:(s.size:Int)<15+2 * n
 ·have HR:Hid (a2q n W B L s=some (some (s.size:Int))):=if_pos c1
  go_wp2_with fail
  go_region_with (first|(go_at_call 209;refine (a4v a0 a1 _ _ _ ?_).mono ?_;exact ((((HW.out.alloc _).alloc _).alloc _).below HB.out).drew;rintro e w' ⟨⟨vr,rfl,hvr⟩,rfl⟩))
  all_goals
   go_wp2
   refine bodyPost_ret (v:=.tuple #[.agg #[.int .i64 1,.int .i64 F,.int .i64 0,.int .i64 0,.int .i64 0,.slice none 0 0,.string e0],vr]) (by simp [results,Tryz.results213,go_sem,hc1]) rfl ⟨⟨_,_,rfl,⟨1,F,0,0,0,none,0,0,e0,rfl⟩,?_,?_⟩,?_⟩
   ·rw [HR.out];exact hvr
   ·intro h;rw [HR.out] at h;cases h
   ·exact (a0b HBA.out (by omega) _ _ _ _ _ _ _).drew
 ·have HR0:Hid (a2q n W B L s=match rData n W B L 1 (byt s 5) (val s 6 2) (val s 8 2) (vecOf s 10 n) (s.size-(15+2 * n)) with
   | some x=>some x
   | none=>if (byt s (10+2 * n):Int)=((s.size-(15+2 * n):Nat):Int) then none else some (some (10+2 * (n:Int)))):=if_neg c1
  have hsz:15+2 * n≤s.size:=by omega
  clear hc1 hf1
  have BX1:=HBX1.out
  obtain ⟨cN,cW,cB,cL,cK,cF,cO,cS,cLw,cV,cT,cz⟩:=BX1
  go_wp2_with fail
  refine (aa7 n W B L h1 h2 _).mono ?_
  rintro e w2 ⟨rfl,hb2⟩
  have HB2:Hid (Below w1.heap.size w1 w2):=hb2
  have HBA2:Hid (Below w.heap.size w w2):=bthen HBA.out hb2
  have HRm2:Hid (Room w.heap.size w2):=HRm1.out.below hb2 (by omega)
  have HBX2:Hid _:=HBX1.out.below hb2 cz
  have BX2:=HBX2.out
  have hf2:=HRm2.out.f1
  clear cN cW cB cL cK cF cO cS cLw cV cT cz hb2 hz0 hz1 hz2
  obtain ⟨cN,cW,cB,cL,cK,cF,cO,cS,cLw,cV,cT,cz⟩:=BX2
  have hi5:5<s.size:=by omega
  have hi5i:(5:Int)<(s.size:Int):=by omega
  have HO:Hid (byt s 5=s[5].toNat):=a1m s 5 hi5
  have hb5:=s[5].toNat_lt
  have HX6:Hid (∀ w,Calls Tryz.prog 211 #[.string s,.int .i64 6,.int .i64 2] w fun e w'=>e=.returned (.int .i64 (val s 6 2))∧w'=w):=fun w=>a2j s 6 2 6 2 rfl rfl w HS.out (by omega) (by omega)
  have HX8:Hid (∀ w,Calls Tryz.prog 211 #[.string s,.int .i64 8,.int .i64 2] w fun e w'=>e=.returned (.int .i64 (val s 8 2))∧w'=w):=fun w=>a2j s 8 2 8 2 rfl rfl w HS.out (by omega) (by omega)
  go_wp2_with fail
  refine (HX6.out _).mono ?_
  rintro e w3' ⟨rfl,rfl⟩
  generalize hw3:w2.setCell { block:=w.heap.size+1,off:=2 } (Value.int IntKind.i64 ↑s[5].toNat)=w3
  have HBA3:Hid (Below w.heap.size w w3):=by rw [←hw3];exact HBA2.out.setCell (by show w.heap.size≤w.heap.size+1;omega) _
  have HRm3:Hid (Room w.heap.size w3):=by rw [←hw3];exact HRm2.out.store 2 _
  have HBX3:Hid (Boxes w.heap.size w3 n W B L 1 F s[5].toNat 0 0 none 0 0 e0):=by rw [←hw3];exact HBX2.out.ori
  have hf3:=HRm3.out.f1
  clear hw3 cN cW cB cL cK cF cO cS cLw cV cT cz hf2
  have BX3:=HBX3.out
  obtain ⟨cN,cW,cB,cL,cK,cF,cO,cS,cLw,cV,cT,cz⟩:=BX3
  have hv6:=a6t s 6
  have hv8:=a6t s 8
  go_wp2_with fail
  refine (HX8.out _).mono ?_
  rintro e w4' ⟨rfl,rfl⟩
  generalize hw4:w3.setCell { block:=w.heap.size+1,off:=3 } (Value.int IntKind.i64 ↑(val s 6 2))=w4
  have HBA4:Hid (Below w.heap.size w w4):=by rw [←hw4];exact HBA3.out.setCell (by show w.heap.size≤w.heap.size+1;omega) _
  have HRm4:Hid (Room w.heap.size w4):=by rw [←hw4];exact HRm3.out.store 3 _
  have HBX4:Hid (Boxes w.heap.size w4 n W B L 1 F s[5].toNat (val s 6 2) 0 none 0 0 e0):=by rw [←hw4];exact HBX3.out.seq
  have hf4:=HRm4.out.f1
  clear hw4 cN cW cB cL cK cF cO cS cLw cV cT cz hf3
  have BX4:=HBX4.out
  obtain ⟨cN,cW,cB,cL,cK,cF,cO,cS,cLw,cV,cT,cz⟩:=BX4
  go_wp2_with fail
  generalize hw5:w4.setCell { block:=w.heap.size+1,off:=4 } (Value.int IntKind.i64 ↑(val s 8 2))=w5
  have HBA5:Hid (Below w.heap.size w w5):=by rw [←hw5];exact HBA4.out.setCell (by show w.heap.size≤w.heap.size+1;omega) _
  have HRm5:Hid (Room w.heap.size w5):=by rw [←hw5];exact HRm4.out.store 4 _
  have HBX5:Hid (Boxes w.heap.size w5 n W B L 1 F s[5].toNat (val s 6 2) (val s 8 2) none 0 0 e0):=by rw [←hw5];exact HBX4.out.low
  clear hw5 cN cW cB cL cK cF cO cS cLw cV cT cz hf4
  refine (a5b n W B L s 10 10 rfl _ (by omega) (by omega) HS.out (by omega)).mono ?_
  rintro e w6 ⟨rfl,hr,hb6⟩
  have HRm6:Hid (Room w.heap.size w6):=HRm5.out.below hb6 HRm5.out.z
  have HBX6:Hid _:=HBX5.out.below hb6 HBX5.out.z
  have HBA6:Hid (Below w.heap.size w w6):=bthen HBA5.out hb6
  have hg:w.heap.size+1+1<w5.heap.size+1:=by have:=HRm5.out.z;omega
  have HR6:Hid (RowI w6 (w5.heap.size+1) (vecOf s 10 n)):=hr
  have hf6:=HRm6.out.f1
  generalize w5.heap.size+1=g at *
  clear hb6 hr HB2 HBX5 HRm5 HBX4 HRm4 HBX3 HRm3 HBX2 HRm2 HBA5 HBA4 HBA3 HBA2 HX6 HX8
  have BX6:=HBX6.out
  obtain ⟨cN,cW,cB,cL,cK,cF,cO,cS,cLw,cV,cT,cz⟩:=BX6
  have hl1:(11:Int)+2 * (n:Int)≤(s.size:Int)-4:=by omega
  have hl2:(4:Int)≤(s.size:Int):=by omega
  go_wp2_with fail
  have hbs:(s.extract (10+2 * n+1) (s.size-4)).size=s.size-(15+2 * n):=by rw [ByteArray.size_extract];omega
  have HBD:Hid (s.extract (11+2 * n) (s.size-4)=s.extract (10+2 * n+1) (s.size-4)):=by show s.extract (11+2 * n) (s.size-4)=_;rw [show 11+2 * n=10+2 * n+1 by omega]
  generalize s.extract (10+2 * n+1) (s.size-4)=bd at *
  generalize hw7:(w6.setCell { block:=w.heap.size+1,off:=5 } (Value.slice (some { block:=g,off:=0 }) n n)).setCell { block:=w.heap.size+1,off:=6 } (Value.string bd)=w7
  have HBA7:Hid (Below w.heap.size w w7):=by rw [←hw7];exact (HBA6.out.setCell (by show w.heap.size≤w.heap.size+1;omega) _).setCell (by show w.heap.size≤w.heap.size+1;omega) _
  have HRm7:Hid (Room w.heap.size w7):=by rw [←hw7];exact (HRm6.out.store 5 _).store 6 _
  have HBX7:Hid (Boxes w.heap.size w7 n W B L 1 F s[5].toNat (val s 6 2) (val s 8 2) (some ⟨g,0,none⟩) n n bd):=by rw [←hw7];exact HBX6.out.vec.txt
  have HR7:Hid (RowI w7 g (vecOf s 10 n)):=by rw [←hw7];exact (HR6.out.other _ _ (by show g≠w.heap.size+1;omega)).other _ _ (by show g≠w.heap.size+1;omega)
  have HI7:Hid (Ints w7 (some ⟨g,0,none⟩) n (vecOf s 10 n)):=by
   have:=RowI.ints (vs:=vecOf s 10 n) (ms:=[]) (by simpa using HR7.out)
   rw [a06] at this
   exact this
  clear hw7 cN cW cB cL cK cF cO cS cLw cV cT cz hf6 HBX6 HRm6 HR6 HBA6
  refine (a5t a0 a1 n W B L 1 F s[5].toNat (val s 6 2) (val s 8 2) (some ⟨g,0,none⟩) n n bd (vecOf s 10 n) w7 (HW.out.below HBA7.out) HI7.out HG.out (Nat.le_trans (show n≤8 by omega) (by decide)) (by unfold maxLen;omega)).mono ?_
  rintro e w8 ⟨⟨vr,rfl,hvr⟩,hb8⟩
  have HBA8:Hid (Below w.heap.size w w8):=bthen HBA7.out hb8
  have HRm8:Hid (Room w.heap.size w8):=HRm7.out.below hb8 HRm7.out.z
  have HBX8:Hid _:=HBX7.out.below hb8 HBX7.out.z
  have HR8:Hid (RowI w8 g (vecOf s 10 n)):=HR7.out.below hb8 HR7.out.lt
  clear hb8 HBX7 HRm7 HR7 HBA7 HI7
  have BX8:=HBX8.out
  have hf8:=HRm8.out.f1
  obtain ⟨cN,cW,cB,cL,cK,cF,cO,cS,cLw,cV,cT,cz⟩:=BX8
  rw [hbs] at hvr
  have HR1:=HR0
  clear HR0
  rw [HO.out] at HR1
  generalize s[5].toNat=o at *
  have hf9:=HRm8.out.f2
  obtain ⟨u0,hu0⟩:=HRm8.out.r 0 (by omega)
  obtain ⟨u1,hu1⟩:=HRm8.out.r 1 (by omega)
  obtain ⟨u2,hu2⟩:=HRm8.out.r 2 (by omega)
  obtain ⟨u3,hu3⟩:=HRm8.out.r 3 (by omega)
  obtain ⟨u4,hu4⟩:=HRm8.out.r 4 (by omega)
  obtain ⟨u5,hu5⟩:=HRm8.out.r 5 (by omega)
  obtain ⟨u6,hu6⟩:=HRm8.out.r 6 (by omega)
  cases hr:rData n W B L 1 o (val s 6 2) (val s 8 2) (vecOf s 10 n) (s.size-(15+2 * n)) with
  | some x =>
   rw [hr] at hvr HR1
   have HV:Hid (IsF a1 vr (some x)):=hvr
   obtain ⟨t,y,rfl⟩:=hvr.a1b.2 x rfl
   clear hvr hr
   go_wp2_with fail
   obtain ⟨r0,r1,r2,r3,r4,r5,r6⟩:=Room.seven HRm8.out (.int .i64 1) (.int .i64 F) (.int .i64 o) (.int .i64 (val s 6 2)) (.int .i64 (val s 8 2)) (.slice (some ⟨g,0,none⟩) n n) (.string bd) _ rfl
   refine bodyPost_ret (v:=.tuple #[.agg #[.int .i64 1,.int .i64 F,.int .i64 o,.int .i64 (val s 6 2),.int .i64 (val s 8 2),.slice (some ⟨g,0,none⟩) n n,.string bd],.iface t y]) (by simp [results,Tryz.results213,go_sem,r0,r1,r2,r3,r4,r5,r6]) rfl ⟨⟨_,_,rfl,⟨1,F,_,_,_,_,n,n,bd,rfl⟩,?_,?_⟩,?_⟩
   ·rw [HR1.out];exact HV.out
   ·intro h;rw [HR1.out] at h;cases h
   ·exact a0b HBA8.out (by omega) _ _ _ _ _ _ _
  | none =>
   rw [hr] at hvr HR1
   obtain rfl:=hvr.a1b.1 rfl
   clear hvr hr
   have hiz:10+2 * n<s.size:=by omega
   have hizi:(10:Int)+2 * (n:Int)<(s.size:Int):=by omega
   have HZ:Hid (byt s (10+2 * n)=s[10+2 * n].toNat):=a1m s _ hiz
   have hbz:=s[10+2 * n].toNat_lt
   rw [HZ.out] at HR1
   have hiz0:(0:Int)≤10+2 * (n:Int):=by omega
   have hizt:((10:Int)+2 * (n:Int)).toNat=10+2 * n:=by omega
   by_cases c9:s[10+2 * n].toNat=s.size-(15+2 * n)
   ·have HRR:Hid (a2q n W B L s=none):=by have:=HR1.out;rw [c9,if_pos rfl] at this;exact this
    have c9b:((s[10+2 * n].toNat:Int) != (bd.size:Int))=false:=by rw [hbs,c9];simp
    have hbl:bd.size≤1000:=by omega
    clear c9
    go_wp2_with fail
    go_quiet (fail)
    go_wp2_with fail
    have HBA9':Hid (Below w.heap.size w (w8.drewN nq)):=below_drewN HBA8.out _
    have hd:Below w8.heap.size w8 (w8.drewN nq):=below_drewN (Below.refl _ _) _
    refine (a9d bd _ (by omega)).mono ?_
    rintro e w9 ⟨rfl,hb9⟩
    have HBA9:Hid (Below w.heap.size w w9):=bthen HBA9'.out hb9
    have HRm9:Hid (Room w.heap.size w9):=(HRm8.out.below hd HRm8.out.z).below hb9 (by have:=HRm8.out.z;have:=hd.size;omega)
    have HBX9:Hid _:=(HBX8.out.below hd HBX8.out.z).below hb9 (by have:=HBX8.out.z;have:=hd.size;omega)
    have HR9:Hid (RowI w9 g (vecOf s 10 n)):=(HR8.out.below hd HR8.out.lt).below hb9 (Nat.lt_of_lt_of_le HR8.out.lt hd.size)
    clear hb9 hd cN cW cB cL cK cF cO cS cLw cV cT cz hf8 hf9 hu0 hu1 hu2 hu3 hu4 hu5 hu6 HBX8 HRm8 HBA8 HR8 HBA9'
    have BX9:=HBX9.out
    have hf8:=HRm9.out.f1
    have hf9:=HRm9.out.f2
    obtain ⟨cN,cW,cB,cL,cK,cF,cO,cS,cLw,cV,cT,cz⟩:=BX9
    obtain ⟨u0,hu0⟩:=HRm9.out.r 0 (by omega)
    obtain ⟨u1,hu1⟩:=HRm9.out.r 1 (by omega)
    obtain ⟨u2,hu2⟩:=HRm9.out.r 2 (by omega)
    obtain ⟨u3,hu3⟩:=HRm9.out.r 3 (by omega)
    obtain ⟨u4,hu4⟩:=HRm9.out.r 4 (by omega)
    obtain ⟨u5,hu5⟩:=HRm9.out.r 5 (by omega)
    obtain ⟨u6,hu6⟩:=HRm9.out.r 6 (by omega)
    go_wp2_with fail
    obtain ⟨r0,r1,r2,r3,r4,r5,r6⟩:=Room.seven (HRm9.out.store 6 (.string bd)) (.int .i64 1) (.int .i64 F) (.int .i64 o) (.int .i64 (val s 6 2)) (.int .i64 (val s 8 2)) (.slice (some ⟨g,0,none⟩) n n) (.string bd) _ rfl
    refine bodyPost_ret (v:=.tuple #[.agg #[.int .i64 1,.int .i64 F,.int .i64 o,.int .i64 (val s 6 2),.int .i64 (val s 8 2),.slice (some ⟨g,0,none⟩) n n,.string bd],.nilIface]) (by simp [results,Tryz.results213,go_sem,r0,r1,r2,r3,r4,r5,r6]) rfl ⟨⟨_,_,rfl,⟨1,F,_,_,_,_,n,n,bd,rfl⟩,?_,?_⟩,?_⟩
    ·rw [HRR.out];exact IsF.nil a1
    ·intro _
     rw [HO.out,HBD.out]
     exact ⟨⟨g,by omega,rfl,(HR9.out.other _ _ (by show g≠w.heap.size+1;omega)).set7 (by omega) _ _ _ _ _ _ _⟩⟩
    ·exact a0b (HBA9.out.setCell (by show w.heap.size≤w.heap.size+1;omega) _) (by omega) _ _ _ _ _ _ _
   ·have HRR:Hid (a2q n W B L s=some (some (10+2 * (n:Int)))):=by have:=HR1.out;rw [if_neg (by omega)] at this;exact this
    have c9b:((s[10+2 * n].toNat:Int) != (bd.size:Int))=true:=bne_iff_ne.2 (by omega)
    clear c9
    go_wp2_with fail
    go_quiet (fail)
    go_wp2_with fail
    go_region_with (first|(go_at_call 209;refine (a4v a0 a1 _ _ _ ?_).mono ?_;exact (HW.out.below (below_drewN HBA8.out _)).drew;rintro e w' ⟨⟨vr,rfl,hvr⟩,rfl⟩))
    all_goals
     go_wp2
     have HRm9:Hid (Room w.heap.size (w8.drewN (nq+1))):=HRm8.out.below (b:=w8.heap.size) (below_drewN (Below.refl _ _) _) HRm8.out.z
     obtain ⟨r0,r1,r2,r3,r4,r5,r6⟩:=Room.seven HRm9.out (.int .i64 1) (.int .i64 F) (.int .i64 o) (.int .i64 (val s 6 2)) (.int .i64 (val s 8 2)) (.slice (some ⟨g,0,none⟩) n n) (.string bd) _ rfl
     refine bodyPost_ret (v:=.tuple #[.agg #[.int .i64 1,.int .i64 F,.int .i64 o,.int .i64 (val s 6 2),.int .i64 (val s 8 2),.slice (some ⟨g,0,none⟩) n n,.string bd],vr]) (by simp [results,Tryz.results213,go_sem,r0,r1,r2,r3,r4,r5,r6]) rfl ⟨⟨_,_,rfl,⟨1,F,_,_,_,_,n,n,bd,rfl⟩,?_,?_⟩,?_⟩
     ·rw [HRR.out];exact hvr
     ·intro h;rw [HRR.out] at h;cases h
     ·exact a0b (below_drewN HBA8.out _) (by omega) _ _ _ _ _ _ _
end Go.Proofs.YtabecbjfamphbaaGreatDoor
