/- A part of the proof. -/
import Derived.Test.YtabecbjfamphbaaGreatDoorM13
import Derived.Laws.CopyOwn
import Derived.Test.YtabecbjfamphbaaGreatDoorM12
namespace Go.Proofs.YtabecbjfamphbaaGreatDoor
open Go.RowKit Go.Stop Go.Extern
set_option maxRecDepth 100000
theorem a15 (x n':Int) (n:Nat) (hn':n'=(n:Int)) (w:World) (hx0:0≤x) (hx:x<4611686018427387904) (hn:n≤8) :
  Calls Tryz.prog 178 #[.int .i64 x,.int .i64 n'] w fun e w'=>e=.returned (.string (txt (num x.toNat n)))∧Below w.heap.size w w':=by
 subst hn'
 obtain ⟨y,rfl⟩:=Int.eq_ofNat_of_zero_le hx0
 exact a3w y n w (by omega) hn
theorem a3m (x n:Nat):(txt (num x n)).size=n:=by rw [a2d,a0j]
theorem keep6 {z:Nat} {x0 x y:World} {N K F:Int} (h:x.cell? ⟨z+1,0,none⟩=some (.int .i64 K)∧x.cell? ⟨z,0,none⟩=some (.int .i64 N)∧x.cell? ⟨z+1,1,none⟩=some (.int .i64 F)∧z+2≤x.heap.size∧Below x0.heap.size x0 x) (hb:Below x.heap.size x y) :
  y.cell? ⟨z+1,0,none⟩=some (.int .i64 K)∧y.cell? ⟨z,0,none⟩=some (.int .i64 N)∧y.cell? ⟨z+1,1,none⟩=some (.int .i64 F)∧z+2≤y.heap.size∧Below x0.heap.size x0 y:=by
 obtain ⟨h1,h2,h3,h4,h5⟩:=h
 have e0:∀ o,y.cell? ⟨z,o,none⟩=x.cell? ⟨z,o,none⟩:=fun o=>hb.cell (p:=⟨z,o,none⟩) (by show z<_;omega)
 have e1:∀ o,y.cell? ⟨z+1,o,none⟩=x.cell? ⟨z+1,o,none⟩:=fun o=>hb.cell (p:=⟨z+1,o,none⟩) (by show z+1<_;omega)
 exact ⟨(e1 _).trans h1,(e0 _).trans h2,(e1 _).trans h3,Nat.le_trans h4 hb.size,bthen h5 hb⟩
theorem keep8 {z:Nat} {x0 x y:World} {O S Lw:Int} {body:ByteArray} (h:x.cell? ⟨z+1,2,none⟩=some (.int .i64 O)∧x.cell? ⟨z+1,3,none⟩=some (.int .i64 S)∧x.cell? ⟨z+1,4,none⟩=some (.int .i64 Lw)∧x.cell? ⟨z+1,6,none⟩=some (.string body)∧z+2≤x.heap.size∧Below x0.heap.size x0 x) (hb:Below x.heap.size x y) :
  y.cell? ⟨z+1,2,none⟩=some (.int .i64 O)∧y.cell? ⟨z+1,3,none⟩=some (.int .i64 S)∧y.cell? ⟨z+1,4,none⟩=some (.int .i64 Lw)∧y.cell? ⟨z+1,6,none⟩=some (.string body)∧z+2≤y.heap.size∧Below x0.heap.size x0 y:=by
 obtain ⟨h1,h2,h3,h4,h5,h6⟩:=h
 have e1:∀ o,y.cell? ⟨z+1,o,none⟩=x.cell? ⟨z+1,o,none⟩:=fun o=>hb.cell (p:=⟨z+1,o,none⟩) (by show z+1<_;omega)
 exact ⟨(e1 _).trans h1,(e1 _).trans h2,(e1 _).trans h3,(e1 _).trans h4,Nat.le_trans h5 hb.size,bthen h6 hb⟩
set_option maxHeartbeats 8000000 in
theorem a9o (N W B L F O S Lw:Int) (ad:Option Addr) (len cap:Nat) (body:ByteArray) (vs:List Int) (w:World) (hi:Ints w ad len vs)
  (hN1:2≤N) (hN2:N≤8) (hF1:0≤F) (hF2:F<N) (hlen:len≤8) (hv:∀ v∈vs,0≤v∧v≤65535) (hbd:body.size=0) :
  Calls Tryz.prog 173 #[.agg #[.int .i64 N,.int .i64 W,.int .i64 B,.int .i64 L],.agg #[.int .i64 2,.int .i64 F,.int .i64 O,.int .i64 S,.int .i64 Lw,.slice ad len cap,.string body]] w fun e w'=>e=.returned (.string (txt (a04 N 2 F O S Lw vs body)))∧Below w.heap.size w w':=by
 have HI:Hid (Ints w ad len vs):=hi
 have HL:Hid (vs.length=len):=hi.len
 have HV:Hid (∀ v∈vs,0≤v∧v≤65535):=hv
 have HBd:Hid (body.size=0):=hbd
 clear hi hv hbd
 have HBX0:Hid _:=a0x w N W B L 2 F O S Lw ad len cap body 26 45
 have B0:=a09 w (.cells #[.int .i64 N,.int .i64 W,.int .i64 B,.int .i64 L] 26) (.cells #[.int .i64 2,.int .i64 F,.int .i64 O,.int .i64 S,.int .i64 Lw,.slice ad len cap,.string body] 45)
 have HB0:Hid _:=B0
 clear B0
 have hlen8:(len:Int)≤8:=by omega
 go_enter Tryz.func173,Tryz.ntmps173
 go_wp2
 go_loopw [5,6] (fun s c wr=>∃ k:Nat,k≤len∧c=.int .i64 k∧s=.string (txt (a03 (vs.take k)))∧Below w.heap.size w wr∧Boxes w.heap.size wr N W B L 2 F O S Lw ad len cap body) (fun _ c _=>len-(intOf c).toNat)
 case atStart=>exact ⟨0,Nat.zero_le _,rfl,rfl,HB0.out,HBX0.out⟩
 case round =>
  obtain ⟨k,hk,rfl,rfl,hbel,BXr⟩:=hrel
  have HB:Hid (Below w.heap.size w wr):=hbel
  have HBXr:Hid _:=BXr
  clear hbel
  obtain ⟨cN,cW,cB,cL,cK,cF,cO,cS,cLw,cV,cT,cz⟩:=BXr
  have hsl:(txt (a03 (vs.take k))).size≤16:=by rw [a2d,a0g];have:=List.length_take_le k vs;omega
  by_cases hlt:k<len
  ·obtain ⟨b,off,rfl,hbl,hcell⟩:=(HI.out.below HB.out).cell k hlt
   obtain ⟨x,hx⟩:∃ x,x=vs.getD k 0:=⟨_,rfl⟩
   rw [←hx] at hcell
   have HX:Hid (x=vs.getD k 0):=hx
   clear hx
   have hxb:=au7 HV.out (by rw [HL.out];exact hlt) HX.out
   obtain ⟨hx0,hx1⟩:=hxb
   go_wp2_with fail
   refine (a15 x 2 2 rfl _ hx0 (by omega) (by omega)).mono ?_
   rintro e w6 ⟨rfl,hb6⟩
   have HB6:Hid _:=hb6
   clear hb6
   have hsn:=a3m x.toNat 2
   go_wp2
   go_roundw
   case rel=>exact ⟨k+1,by omega,by go_num,by rw [a81 (by rw [HL.out];exact hlt) HX.out,←a0o],bthen HB.out HB6.out,HBXr.out.below HB6.out cz⟩
   case measure=>simp [intOf];omega
  ·have HVs:Hid (vs.take k=vs):=List.take_of_length_le (by rw [HL.out];omega)
   rw [HVs.out] at hsl ⊢
   have hsn:=a3m
   have htl:(txt (a03 vs)).size≤16:=hsl
   clear hsl
   go_wp2
   go_region_held3 (fun w'=>w'.cell? ⟨w.heap.size+1,0,none⟩=some (.int .i64 2)∧w'.cell? ⟨w.heap.size,0,none⟩=some (.int .i64 N)∧w'.cell? ⟨w.heap.size+1,1,none⟩=some (.int .i64 F)∧w.heap.size+2≤w'.heap.size∧Below wr.heap.size wr w') (first|(exact keep6 (by assumption) (by assumption))|(exact ⟨cK,cN,cF,cz,(Below.refl _ _).drew⟩))
    (first|(go_at_call 178;refine (a15 _ 1 1 rfl _ (by omega) (by omega) (by omega)).mono ?_;rintro e w' ⟨rfl,hb⟩))
   rename_i hHeld
   have HQ:Hid (Below wr.heap.size wr w'):=hHeld.2.2.2.2
   clear hHeld
   have BXq:=HBXr.out.below HQ.out cz
   clear cN cW cB cL cK cF cO cS cLw cV cT cz
   obtain ⟨cN,cW,cB,cL,cK,cF,cO,cS,cLw,cV,cT,cz⟩:=BXq
   have hstr:(({ data:=#[104,115] }:ByteArray)++txt (num 2 1)++txt (num N.toNat 1)++txt (num F.toNat 1))=txt ([104,115,2,UInt8.ofNat N.toNat,UInt8.ofNat F.toNat]):=by
    rw [show ({ data:=#[104,115] }:ByteArray)=txt [104,115] from rfl,a0o,a0o,a0o]
    simp [num]
   rw [hstr]
   clear hstr
   have hs5:(txt [104,115,2,UInt8.ofNat N.toNat,UInt8.ofNat F.toNat]).size=5:=rfl
   have hhd:Hid (a0a N 2 F O S Lw vs body.size++body.data.toList=[104,115,2,UInt8.ofNat N.toNat,UInt8.ofNat F.toNat]++a03 vs):=by
    have hbn:body.data.toList=[]:=List.eq_nil_of_length_eq_zero (by rw [Array.length_toList];exact HBd.out)
    show _=_
    rw [hbn]
    simp [a0a]
   go_wp2_with fail
   rw [a0o]
   obtain ⟨pre,hpre⟩:∃ pre,pre=[104,115,2,UInt8.ofNat N.toNat,UInt8.ofNat F.toNat]++a03 vs:=⟨_,rfl⟩
   have hps:(txt pre).size≤21:=by rw [hpre,a2d,List.length_append,a0g,HL.out];simp;omega
   have HFB:Hid (a04 N 2 F O S Lw vs body=pre++num (Crc.sum pre) 4):=by
    show _=_
    unfold a04;rw [hhd.out,hpre]
   rw [←hpre]
   clear hpre hhd hs5
   refine (a4w _ _ (by unfold maxLen;omega)).mono ?_
   rintro e w7 ⟨rfl,rfl⟩
   rw [a6b]
   have hsm:=Crc.sum_lt pre
   generalize hgs:Crc.sum pre=sm at *
   clear hgs
   go_wp2_with fail
   refine (a15 (sm:Int) 4 4 rfl _ (by omega) (by omega) (by omega)).mono ?_
   rintro e w8 ⟨rfl,hb8⟩
   rw [Int.toNat_natCast]
   have HB8:Hid _:=hb8
   clear hb8
   go_wp2
   go_ret
   rw [HFB.out,←a0o]
   exact ⟨rfl,bthen (bthen HB.out HQ.out) HB8.out⟩
set_option maxHeartbeats 8000000 in
theorem ac1 (N W B L F O S Lw:Int) (ad:Option Addr) (len cap:Nat) (body:ByteArray) (vs:List Int) (w:World) (hi:Ints w ad len vs)
  (hN1:2≤N) (hN2:N≤8) (hF1:0≤F) (hF2:F<N) (hO1:0≤O) (hO2:O<N) (hS1:1≤S) (hS2:S≤65535) (hL1:0≤Lw) (hL2:Lw<S) (hlen:len≤8) (hv:∀ v∈vs,0≤v∧v≤65535) (hbd:body.size≤40) :
  Calls Tryz.prog 173 #[.agg #[.int .i64 N,.int .i64 W,.int .i64 B,.int .i64 L],.agg #[.int .i64 1,.int .i64 F,.int .i64 O,.int .i64 S,.int .i64 Lw,.slice ad len cap,.string body]] w fun e w'=>e=.returned (.string (txt (a04 N 1 F O S Lw vs body)))∧Below w.heap.size w w':=by
 have HI:Hid (Ints w ad len vs):=hi
 have HL:Hid (vs.length=len):=hi.len
 have HV:Hid (∀ v∈vs,0≤v∧v≤65535):=hv
 clear hi hv
 have HBX0:Hid _:=a0x w N W B L 1 F O S Lw ad len cap body 26 45
 have B0:=a09 w (.cells #[.int .i64 N,.int .i64 W,.int .i64 B,.int .i64 L] 26) (.cells #[.int .i64 1,.int .i64 F,.int .i64 O,.int .i64 S,.int .i64 Lw,.slice ad len cap,.string body] 45)
 have HB0:Hid _:=B0
 clear B0
 have hlen8:(len:Int)≤8:=by omega
 go_enter Tryz.func173,Tryz.ntmps173
 go_wp2
 go_loopw [5,6] (fun s c wr=>∃ k:Nat,k≤len∧c=.int .i64 k∧s=.string (txt (a03 (vs.take k)))∧Below w.heap.size w wr∧Boxes w.heap.size wr N W B L 1 F O S Lw ad len cap body) (fun _ c _=>len-(intOf c).toNat)
 case atStart=>exact ⟨0,Nat.zero_le _,rfl,rfl,HB0.out,HBX0.out⟩
 case round =>
  obtain ⟨k,hk,rfl,rfl,hbel,BXr⟩:=hrel
  have HB:Hid (Below w.heap.size w wr):=hbel
  have HBXr:Hid _:=BXr
  clear hbel
  obtain ⟨cN,cW,cB,cL,cK,cF,cO,cS,cLw,cV,cT,cz⟩:=BXr
  have hsl:(txt (a03 (vs.take k))).size≤16:=by rw [a2d,a0g];have:=List.length_take_le k vs;omega
  by_cases hlt:k<len
  ·obtain ⟨b,off,rfl,hbl,hcell⟩:=(HI.out.below HB.out).cell k hlt
   obtain ⟨x,hx⟩:∃ x,x=vs.getD k 0:=⟨_,rfl⟩
   rw [←hx] at hcell
   have HX:Hid (x=vs.getD k 0):=hx
   clear hx
   have hxb:=au7 HV.out (by rw [HL.out];exact hlt) HX.out
   obtain ⟨hx0,hx1⟩:=hxb
   go_wp2_with fail
   refine (a15 x 2 2 rfl _ hx0 (by omega) (by omega)).mono ?_
   rintro e w6 ⟨rfl,hb6⟩
   have HB6:Hid _:=hb6
   clear hb6
   have hsn:=a3m x.toNat 2
   go_wp2
   go_roundw
   case rel=>exact ⟨k+1,by omega,by go_num,by rw [a81 (by rw [HL.out];exact hlt) HX.out,←a0o],bthen HB.out HB6.out,HBXr.out.below HB6.out cz⟩
   case measure=>simp [intOf];omega
  ·have HVs:Hid (vs.take k=vs):=List.take_of_length_le (by rw [HL.out];omega)
   rw [HVs.out] at hsl ⊢
   have hsn:=a3m
   have htl:(txt (a03 vs)).size≤16:=hsl
   clear hsl
   go_wp2
   go_region_held3 (fun w'=>w'.cell? ⟨w.heap.size+1,0,none⟩=some (.int .i64 1)∧w'.cell? ⟨w.heap.size,0,none⟩=some (.int .i64 N)∧w'.cell? ⟨w.heap.size+1,1,none⟩=some (.int .i64 F)∧w.heap.size+2≤w'.heap.size∧Below wr.heap.size wr w') (first|(exact keep6 (by assumption) (by assumption))|(exact ⟨cK,cN,cF,cz,(Below.refl _ _).drew⟩))
    (first|(go_at_call 178;refine (a15 _ 1 1 rfl _ (by omega) (by omega) (by omega)).mono ?_;rintro e w' ⟨rfl,hb⟩))
   rename_i hHeld
   have HQ:Hid (Below wr.heap.size wr w'):=hHeld.2.2.2.2
   clear hHeld
   have HQB:Hid (Below w.heap.size w w'):=bthen HB.out HQ.out
   obtain ⟨wq,hwq⟩:∃ wq,wq=w':=⟨_,rfl⟩
   rw [←hwq]
   rw [←hwq] at HQ HQB
   clear hwq
   have BXq:=HBXr.out.below HQ.out cz
   have HBXq:Hid _:=BXq
   clear cN cW cB cL cK cF cO cS cLw cV cT cz
   obtain ⟨cN,cW,cB,cL,cK,cF,cO,cS,cLw,cV,cT,cz⟩:=BXq
   have hstr:(({ data:=#[104,115] }:ByteArray)++txt (num 1 1)++txt (num N.toNat 1)++txt (num F.toNat 1))=txt ([104,115,1,UInt8.ofNat N.toNat,UInt8.ofNat F.toNat]):=by
    rw [show ({ data:=#[104,115] }:ByteArray)=txt [104,115] from rfl,a0o,a0o,a0o]
    simp [num]
   rw [hstr]
   clear hstr
   obtain ⟨p5,hp5⟩:∃ p5,p5=[104,115,1,UInt8.ofNat N.toNat,UInt8.ofNat F.toNat]:=⟨_,rfl⟩
   have hs5:(txt p5).size=5:=by rw [hp5];rfl
   rw [←hp5]
   have HP5:Hid (p5=[104,115,1,UInt8.ofNat N.toNat,UInt8.ofNat F.toNat]):=hp5
   clear hp5
   obtain ⟨vb,hvb⟩:∃ vb,vb=txt (a03 vs):=⟨_,rfl⟩
   rw [←hvb] at htl ⊢
   have HVB:Hid (vb=txt (a03 vs)):=hvb
   clear hvb
   have m1:(9223372036854775807<10+vb.size)=False:=eq_false (by omega)
   have m2:(9223372036854775807<10+vb.size+1)=False:=eq_false (by omega)
   have m3:(9223372036854775807<10+vb.size+1+body.size)=False:=eq_false (by omega)
   go_wp2
   go_region_held3 (fun w'=>w'.cell? ⟨w.heap.size+1,2,none⟩=some (.int .i64 O)∧w'.cell? ⟨w.heap.size+1,3,none⟩=some (.int .i64 S)∧w'.cell? ⟨w.heap.size+1,4,none⟩=some (.int .i64 Lw)∧w'.cell? ⟨w.heap.size+1,6,none⟩=some (.string body)∧w.heap.size+2≤w'.heap.size∧Below wq.heap.size wq w') (first|(exact keep8 (by assumption) (by assumption))|(exact ⟨cO,cS,cLw,cT,cz,(Below.refl _ _).drew⟩))
    (first|(go_at_call_of 178 (Value.int IntKind.i64 2);refine (a15 _ 2 2 rfl _ (by omega) (by omega) (by omega)).mono ?_;rintro e w' ⟨rfl,hb⟩)|(go_at_call 178;refine (a15 _ 1 1 rfl _ (by omega) (by omega) (by omega)).mono ?_;rintro e w' ⟨rfl,hb⟩))
   rename_i hHeld
   have HQ8:Hid (Below wq.heap.size wq w'):=hHeld.2.2.2.2.2
   clear hHeld
   obtain ⟨pre,hpre⟩:∃ pre,pre=p5++num O.toNat 1++num S.toNat 2++num Lw.toNat 2++a03 vs++num body.size 1++body.data.toList:=⟨_,rfl⟩
   have hbt:body=txt body.data.toList:=by simp [txt]
   have hstr:(txt p5++txt (num O.toNat 1)++txt (num S.toNat 2)++txt (num Lw.toNat 2)++vb++txt (num body.size 1)++body)=txt pre:=by
    rw [hpre,HVB.out]
    conv=>lhs;rhs;rw [hbt]
    rw [a0o,a0o,a0o,a0o,a0o,a0o]
   have hps:(txt pre).size≤67:=by
    rw [hpre,a2d]
    have e1:p5.length=5:=by rw [←a2d];exact hs5
    have e2:=a0g vs
    have e3:=HL.out
    simp only [List.length_append,a0j,Array.length_toList,e1,e2]
    show _+body.size≤67
    omega
   have HFB:Hid (a04 N 1 F O S Lw vs body=pre++num (Crc.sum pre) 4):=by
    have e:a0a N 1 F O S Lw vs body.size++body.data.toList=pre:=by
     rw [hpre,HP5.out]
     simp [a0a,num]
    show _=_
    unfold a04;rw [e]
   rw [hstr]
   clear hstr hbt hpre m1 m2 m3 hs5 cN cW cB cL cK cF cO cS cLw cV cT cz
   go_wp2_with fail
   refine (a4w _ _ (by unfold maxLen;omega)).mono ?_
   rintro e w7 ⟨rfl,rfl⟩
   rw [a6b]
   have hsm:=Crc.sum_lt pre
   generalize hgs:Crc.sum pre=sm at *
   clear hgs
   go_wp2_with fail
   refine (a15 (sm:Int) 4 4 rfl _ (by omega) (by omega) (by omega)).mono ?_
   rintro e w8 ⟨rfl,hb8⟩
   rw [Int.toNat_natCast]
   have HB8:Hid _:=hb8
   clear hb8
   go_wp2
   go_ret
   rw [HFB.out,←a0o]
   exact ⟨rfl,bthen (bthen HQB.out HQ8.out) HB8.out⟩
theorem a2t (N W B L K F O S Lw:Int) (ad:Option Addr) (len cap:Nat) (body:ByteArray) (vs:List Int) (w:World) (hi:Ints w ad len vs) (hG:okG N W B L=true) (hf:Fits N W B L K F O S Lw vs body) :
  Calls Tryz.prog 173 #[.agg #[.int .i64 N,.int .i64 W,.int .i64 B,.int .i64 L],.agg #[.int .i64 K,.int .i64 F,.int .i64 O,.int .i64 S,.int .i64 Lw,.slice ad len cap,.string body]] w fun e w'=>e=.returned (.string (txt (a04 N K F O S Lw vs body)))∧Below w.heap.size w w':=by
 obtain ⟨h1,h2,h3,h4,h5,h6,h7,h8⟩:=a0u.1 hG
 have hlen:=hf.len
 have hl:=hi.len
 have hv:∀ v∈vs,0≤v∧v≤65535:=fun v hv=>by have:=hf.vec v hv;omega
 have f0:=hf.from0
 have f1:=hf.from1
 rcases hf.kind with ⟨rfl,o,sq,lw,bd⟩ | ⟨rfl,o0,o1,s1,s2,l0,l1,l2,hv2,bd⟩
 ·exact a9o N W B L F O S Lw ad len cap body vs w hi h1 h2 f0 f1 (by omega) hv bd
 ·exact ac1 N W B L F O S Lw ad len cap body vs w hi h1 h2 f0 f1 o0 o1 s1 (by omega) l0 l1 (by omega) hv (by omega)
set_option maxHeartbeats 4000000 in
theorem a5r (N W B L K F O S Lw:Int) (ad:Option Addr) (len cap:Nat) (body:ByteArray) (vs:List Int) (w:World) (hi:Ints w ad len vs) (hl:len≤maxLen) (hbd:body.size≤maxLen) :
  Calls Tryz.prog 162 #[.agg #[.int .i64 N,.int .i64 W,.int .i64 B,.int .i64 L],.agg #[.int .i64 K,.int .i64 F,.int .i64 O,.int .i64 S,.int .i64 Lw,.slice ad len cap,.string body]] w fun e w'=>e=.returned (.tuple #[.string (txt (encR N W B L K F O S Lw vs body).1),.int .i64 (encR N W B L K F O S Lw vs body).2])∧Below w.heap.size w w':=by
 have HI:Hid (Ints w ad len vs):=hi
 have HLm:Hid (len≤maxLen):=hl
 have HBd:Hid (body.size≤maxLen):=hbd
 clear hi hl hbd
 have HBX0:Hid _:=a0x w N W B L K F O S Lw ad len cap body 26 45
 go_enter Tryz.func162,Tryz.ntmps162
 go_wp2_with fail
 refine (a14 N W B L _).mono ?_
 rintro e w1 ⟨rfl,hb⟩
 have HB:Hid _:=hb
 have BX1:=HBX0.out.below hb (by simp)
 have HBX1:Hid _:=BX1
 obtain ⟨cN,cW,cB,cL,cK,cF,cO,cS,cLw,cV,cT,cz⟩:=BX1
 clear hb
 by_cases hG:okG N W B L=true
 ·have HG:Hid (okG N W B L=true):=hG
  rw [if_pos hG]
  clear hG
  have HI1:Hid (Ints w1 ad len vs):=((HI.out.alloc _).alloc _).below HB.out
  go_wp2_with fail
  refine (b06 N W B L K F O S Lw ad len cap body vs _ HI1.out HG.out HLm.out HBd.out).mono ?_
  rintro e w2 ⟨⟨b,rfl,hbb⟩,hb2⟩
  have HB2:Hid _:=hb2
  have BX2:=HBX1.out.below hb2 cz
  clear cN cW cB cL cK cF cO cS cLw cV cT cz hb2
  obtain ⟨cN,cW,cB,cL,cK,cF,cO,cS,cLw,cV,cT,cz⟩:=BX2
  cases b with
  | false =>
   have HE:Hid (encR N W B L K F O S Lw vs body=([],5)):=by
    show encR N W B L K F O S Lw vs body=_
    unfold encR
    rw [if_pos HG.out,if_neg (fun h=>by have:=hbb.2 (an0 h);cases this)]
   clear hbb
   go_wp2
   go_ret2
   rw [HE.out]
   exact ⟨rfl,bthen (bthen (a09 _ _ _) HB.out) HB2.out⟩
  | true =>
   have HF:Hid (Fits N W B L K F O S Lw vs body):=hbb.1 rfl
   have HE:Hid (encR N W B L K F O S Lw vs body=(a04 N K F O S Lw vs body,0)):=by
    show encR N W B L K F O S Lw vs body=_
    unfold encR
    rw [if_pos HG.out,if_pos (b37 HF.out)]
   clear hbb
   go_wp2_with fail
   refine (a2t N W B L K F O S Lw ad len cap body vs _ (HI1.out.below HB2.out) HG.out HF.out).mono ?_
   rintro e w3 ⟨rfl,hb3⟩
   have HB3:Hid _:=hb3
   clear hb3
   go_wp2
   go_ret2
   rw [HE.out]
   exact ⟨rfl,bthen (bthen (bthen (a09 _ _ _) HB.out) HB2.out) HB3.out⟩
 ·have HE:Hid (encR N W B L K F O S Lw vs body=([],1)):=by show encR N W B L K F O S Lw vs body=_;unfold encR;rw [if_neg hG]
  rw [if_neg hG]
  clear hG
  go_wp2
  go_ret2
  rw [HE.out]
  exact ⟨rfl,bthen (a09 _ _ _) HB.out⟩
theorem Tryz.a3d:(Tryz.prog.info? 3).map (fun i=>(i.zero,i.size,i.bytes))=some (some (.int .i64 0),1,8):=by kernel_rfl
theorem Tryz.b6h:(Tryz.prog.info? 3).map (·.size)=some 1:=by kernel_rfl
set_option maxHeartbeats 400000 in
theorem a1g (n:Int) (w:World) (h1:0≤n) (h2:n≤1000000) :
  Calls Tryz.prog 133 #[.int .i64 n] w fun e w'=>e=.returned (.int .i64 (-1000-n))∧w'=w:=by
 go_enter Tryz.func133,Tryz.ntmps133
 go_wp2
 go_ret
 exact ⟨rfl,rfl⟩
theorem a9j (n:Nat):(madeCells #[Value.int .i64 0] n).toList=(List.replicate n (0:Int)).map (Value.int .i64):=by
 apply List.ext_getElem
 ·simp [madeCells]
 ·intro i h1 h2
  simp [madeCells,Nat.mod_one]
theorem a5g {w:World} {base g n:Nat} {zs:List Int} (h:w.ownsRow base 3 1 (.slice (some ⟨g,0,none⟩) n n) n (zs.map (Value.int .i64))):RowI w g zs:=by
 rcases h.2 with ⟨h',_⟩ | ⟨g',cap',cur,h',_,hg,_,_,hcs,htake⟩
 ·simp at h'
 ·simp only [Value.slice.injEq,Option.some.injEq,Addr.mk.injEq,and_true,true_and] at h'
  obtain ⟨rfl,rfl⟩:=h'
  unfold RowI
  rw [←htake,List.take_of_length_le (by rw [Array.length_toList];omega)]
  simpa using hg
def lent (vs:List Int) (k:Nat):List Int:=vs++(List.replicate (k-vs.length) (-1007)++List.replicate (vs.length+5-k) 0)
theorem b5r {vs:List Int} {k:Nat} (h1:vs.length≤k) (h2:k<vs.length+5):(lent vs k).set k (-1007)=lent vs (k+1):=by
 obtain ⟨d,rfl⟩:∃ d,k=vs.length+d:=⟨k-vs.length,by omega⟩
 have e1:vs.length+d-vs.length=d:=by omega
 have e2:vs.length+5-(vs.length+d)=(4-d)+1:=by omega
 have e3:vs.length+d+1-vs.length=d+1:=by omega
 have e4:vs.length+5-(vs.length+d+1)=4-d:=by omega
 unfold lent
 rw [e1,e2,e3,e4,List.set_append_right _ _ (by omega),show vs.length+d-vs.length=d by omega,List.set_append_right _ _ (by simp)]
 rw [List.length_replicate,Nat.sub_self,List.replicate_succ,List.set_cons_zero,List.replicate_succ' (n:=d),List.append_assoc]
 rfl
theorem ap6 {vs:List Int} {k:Nat} (h1:vs.length≤k) (h2:k≤vs.length+5):(lent vs k).length=vs.length+5:=by
 unfold lent;simp;omega
theorem b07 {vs:List Int} {len:Nat} (h:vs.length=len):splice (List.replicate (len+5) (Value.int .i64 0)) 0 (vs.map (Value.int .i64))=(lent vs len).map (Value.int .i64):=by
 subst h
 unfold lent splice
 simp
set_option maxHeartbeats 4000000 in
theorem ae1 (a:Addr) (len cap:Nat) (vs:List Int) (w:World) (hi:Ints w (some a) len vs) (hl:len * 8≤140737488351232) :
  Calls Tryz.prog 161 #[.slice (some a) len cap] w fun e w'=>e=.returned (.slice (some ⟨w.heap.size,0,none⟩) len (len+5))∧RowI w' w.heap.size (lent vs (len+5))∧Below w.heap.size w w':=by
 have HI:Hid (Ints w (some a) len vs):=hi
 have HL:Hid (vs.length=len):=hi.len
 clear hi
 obtain ⟨i0,hi,hz0,hz1,hz2⟩:=info_parts Tryz.a3d
 have hnil:=fun w=>Lib.run_eql_slice_nil (P:=Tryz.prog) w 34 3 (some a) len cap 0 0 Tryz.underlying34
 go_enter Tryz.func161,Tryz.ntmps161
 go_wp2_with (at_make;refine wpList_make_full _ rfl (.tmp 11) (.tmp 11) 34 rfl w.heap.size 3 i0 (.int .i64 0) 1 Tryz.underlying34 hi hz0 hz1 .i64 .i64 _ _ (len+5) rfl rfl ?m1 ?m2 ?m3 ?m4 ?m5 ?_)
 case m1=>omega
 case m2=>omega
 case m3=>rw [hz2];omega
 case m4=>unfold maxLen;omega
 case m5=>exact Nat.le_refl _
 intro w1 hown1 hgrow1
 rw [a9j] at hown1
 have HR1:Hid (RowI w1 w.heap.size (List.replicate (len+5) 0)):=a5g hown1
 have HB1:Hid (Below w.heap.size w w1):=(Below.refl _ _).grown hgrow1 (Nat.le_refl _) (fun k hk=>by cases hk)
 clear hown1 hgrow1
 go_wp2_with (refine wpList_copy_splice rfl (.tmp 13) (.tmp 14) 34 34 rfl 3 Tryz.underlying34 Tryz.b6h _ _ _ _ _ _ rfl rfl w.heap.size 0 ((List.replicate (len+5) (0:Int)).map (Value.int .i64)) 3 HR1.out (vs.map (Value.int .i64)) ?n1 ?n2 ?n3 ?n4 w.heap.size w HB1.out (Nat.le_refl _) ?_)
 case n1=>rw [List.length_map,HL.out];exact (Nat.min_eq_left (by omega)).symm
 case n2 =>
  intro _ j x hj
  have hjl:j<len:=by rw [←HL.out];exact (List.getElem?_eq_some_iff.1 hj).1
  obtain ⟨b,off,e,hbl,hc⟩:=HI.out.cell j hjl
  cases e
  have hadd:∀ k,(⟨b,off,none⟩:Addr).add k=⟨b,off+k,none⟩:=fun k=>by simp [Addr.add]
  rw [hadd,HB1.out.cell (p:=⟨b,off+j,none⟩) hbl,hc,List.getD_eq_getElem?_getD,hj]
  rfl
 case n3=>simp [HL.out]
 case n4=>intro v hv;simp at hv;obtain ⟨x,_,rfl⟩:=hv;rfl
 intro w2 hrow2 hb2
 have hrow:=hrow2.out
 rw [b07 HL.out] at hrow
 have HR2:Hid (RowI w2 w.heap.size (lent vs len)):=hrow
 have HB2:Hid (Below w.heap.size w w2):=hb2
 clear hrow2 hrow hb2 HR1 HB1
 go_wp2
 go_loopw [5] (fun c wr=>∃ k:Nat,len≤k∧k≤len+5∧c=.int .i64 k∧RowI wr w.heap.size (lent vs k)∧Below w.heap.size w wr) (fun c _=>len+5-(intOf c).toNat)
 case atStart=>exact ⟨len,Nat.le_refl _,by omega,rfl,HR2.out,HB2.out⟩
 case round =>
  obtain ⟨k,hk1,hk2,rfl,hr,hb⟩:=hrel
  have HR:Hid (RowI wr w.heap.size (lent vs k)):=hr
  have HB:Hid (Below w.heap.size w wr):=hb
  clear hr hb
  by_cases hlt:k<len+5
  ·have hc:wr.cell? ⟨w.heap.size,k,none⟩=some (.int .i64 ((lent vs k).getD k 0)):=HR.out.cell (by rw [ap6 (by rw [HL.out];exact hk1) (by rw [HL.out];exact hk2),HL.out];exact hlt)
   have hf:=HR.out.free k
   go_wp2_with (go_at_call 133;refine (a1g 7 _ (by omega) (by omega)).mono ?_;rintro e w' ⟨rfl,rfl⟩)
   go_roundw
   case rel=>exact ⟨k+1,by omega,by omega,by go_num,by have:=HR.out.set k (-1007);rw [b5r (by rw [HL.out];exact hk1) (by rw [HL.out];exact hlt)] at this;exact this,HB.out.setCell (Nat.le_refl _) _⟩
   case measure=>simp [intOf];omega
  ·have hke:k=len+5:=by omega
   have HK:Hid (k=len+5):=hke
   clear hke
   go_wp2
   go_ret
   refine ⟨rfl,?_,HB.out⟩
   rw [←HK.out]
   exact HR.out
set_option maxHeartbeats 400000 in
theorem af7 (w:World) :
  Calls Tryz.prog 161 #[.slice none 0 0] w fun e w'=>e=.returned (.slice none 0 0)∧w'=w:=by
 have hnil:=fun w=>Lib.run_eql_slice_nil (P:=Tryz.prog) w 34 3 none 0 0 0 0 Tryz.underlying34
 go_enter Tryz.func161,Tryz.ntmps161
 go_wp2
 go_ret
 exact ⟨rfl,rfl⟩
set_option maxHeartbeats 400000 in
theorem ad6 (v:Value) (w:World) :
  Calls Tryz.prog 163 #[v,.slice none 0 0] w fun e w'=>e=.returned (.bool true)∧w'=w:=by
 have hnil:=fun w=>Lib.run_eql_slice_nil (P:=Tryz.prog) w 34 3 none 0 0 0 0 Tryz.underlying34
 go_enter Tryz.func163,Tryz.ntmps163
 go_wp2
 go_ret
 exact ⟨rfl,rfl⟩
def whole (vs:List Int) (k:Nat):List Int:=List.replicate k (-1009)++(vs++List.replicate 5 (-1007)).drop k
theorem ar4 (vs:List Int):lent vs (vs.length+5)=whole vs 0:=by simp [lent,whole]
theorem al9 {vs:List Int} {k:Nat} (h:k≤vs.length+5):(whole vs k).length=vs.length+5:=by simp [whole];omega
theorem b1o {vs:List Int} {k:Nat} (h:k<vs.length+5):(whole vs k).getD k 0=if k<vs.length then vs.getD k 0 else -1007:=by
 have hk:k<(vs++List.replicate 5 (-1007:Int)).length:=by simp;omega
 unfold whole
 rw [List.getD_eq_getElem?_getD,List.getElem?_append_right (by simp),List.length_replicate,Nat.sub_self,List.getElem?_drop,Nat.add_zero]
 by_cases hl:k<vs.length
 ·rw [if_pos hl,List.getElem?_append_left hl,List.getD_eq_getElem?_getD]
 ·rw [if_neg hl,List.getElem?_append_right (by omega),List.getElem?_replicate,if_pos (by omega)]
  rfl
theorem b1s {vs:List Int} {k:Nat} (h:k<vs.length+5):(whole vs k).set k (-1009)=whole vs (k+1):=by
 have hk:k<(vs++List.replicate 5 (-1007:Int)).length:=by simp;omega
 unfold whole
 rw [List.set_append_right _ _ (by simp),List.length_replicate,Nat.sub_self,List.drop_eq_getElem_cons hk,List.set_cons_zero,List.replicate_succ' (n:=k),List.append_assoc]
 rfl
set_option maxHeartbeats 4000000 in
theorem a9m (g:Nat) (a:Addr) (len cap:Nat) (vs:List Int) (w:World) (hr:RowI w g (lent vs (len+5))) (hi:Ints w (some a) len vs) (hold:0<len→a.block<g) (hl:len * 8≤140737488351232) :
  Calls Tryz.prog 163 #[.slice (some ⟨g,0,none⟩) len (len+5),.slice (some a) len cap] w fun e w'=>e=.returned (.bool true)∧Below g w w':=by
 have HI:Hid (Ints w (some a) len vs):=hi
 have HL:Hid (vs.length=len):=hi.len
 have HR0:Hid (RowI w g (whole vs 0)):=by have:=hr;rw [←hi.len,ar4] at this;exact this
 clear hi hr
 have hnil:=fun w=>Lib.run_eql_slice_nil (P:=Tryz.prog) w 34 3 (some a) len cap 0 0 Tryz.underlying34
 go_enter Tryz.func163,Tryz.ntmps163
 go_wp2
 go_loopw [7,8] (fun q c wr=>∃ k:Nat,k≤len+5∧c=.int .i64 k∧q=.bool true∧RowI wr g (whole vs k)∧Below g w wr) (fun _ c _=>len+5-(intOf c).toNat)
 case atStart=>exact ⟨0,Nat.zero_le _,rfl,rfl,HR0.out,Below.refl _ _⟩
 case round =>
  obtain ⟨k,hk,rfl,rfl,hr,hb⟩:=hrel
  have HR:Hid (RowI wr g (whole vs k)):=hr
  have HB:Hid (Below g w wr):=hb
  clear hr hb
  by_cases hlt:k<len+5
  ·have hlt':k<vs.length+5:=by rw [HL.out];exact hlt
   have hc:=HR.out.cell (j:=k) (by rw [al9 (by omega)];exact hlt')
   rw [b1o hlt'] at hc
   have hf:=HR.out.free k
   have HN:Hid (RowI (wr.setCell ⟨g,k,none⟩ (.int .i64 (-1009))) g (whole vs (k+1))):=by have:=HR.out.set k (-1009);rw [b1s hlt'] at this;exact this
   clear hlt'
   by_cases hkl:k<len
   ·rw [if_pos (by rw [HL.out];exact hkl)] at hc
    obtain ⟨b,off,e,hbl,hcl⟩:=HI.out.cell k hkl
    cases e
    have hcr:wr.cell? ⟨b,off+k,none⟩=some (.int .i64 (vs.getD k 0)):=(HB.out.cell (p:=⟨b,off+k,none⟩) (hold (by omega))).trans hcl
    clear hcl
    generalize vs.getD k 0=y at hc hcr
    go_wp2_with (first|(go_at_call_of 133 (Value.int IntKind.i64 7);refine (a1g 7 _ (by omega) (by omega)).mono ?_;rintro e w' ⟨rfl,rfl⟩)|(go_at_call 133;refine (a1g 9 _ (by omega) (by omega)).mono ?_;rintro e w' ⟨rfl,rfl⟩))
    go_roundw
    case rel=>exact ⟨k+1,by omega,by go_num,rfl,HN.out,HB.out.setCell (Nat.le_refl _) _⟩
    case measure=>simp [intOf];omega
   ·rw [if_neg (by rw [HL.out];exact hkl)] at hc
    go_wp2_with (first|(go_at_call_of 133 (Value.int IntKind.i64 7);refine (a1g 7 _ (by omega) (by omega)).mono ?_;rintro e w' ⟨rfl,rfl⟩)|(go_at_call 133;refine (a1g 9 _ (by omega) (by omega)).mono ?_;rintro e w' ⟨rfl,rfl⟩))
    go_roundw
    case rel=>exact ⟨k+1,by omega,by go_num,rfl,HN.out,HB.out.setCell (Nat.le_refl _) _⟩
    case measure=>simp [intOf];omega
  ·go_wp2
   go_ret
   exact ⟨rfl,HB.out⟩
theorem a2j (s:ByteArray) (p' k':Int) (p k:Nat) (hp':p'=(p:Int)) (hk':k'=(k:Int)) (w:World) (hs:s.size≤maxLen) (hk:k≤4) (hp:p+k≤s.size) :
  Calls Tryz.prog 211 #[.string s,.int .i64 p',.int .i64 k'] w fun e w'=>e=.returned (.int .i64 (val s p k))∧w'=w:=by
 subst hp' hk'
 exact a9s s p k w hs hk hp
theorem a19 (s:ByteArray) (p' k':Int) (p k:Nat) (hp':p'=(p:Int)) (hk':k'=(k:Int)) (w:World) (hs:s.size≤maxLen) (hk:k≤4) (hp:p+k≤s.size) :
  Calls Tryz.prog 201 #[.string s,.int .i64 p',.int .i64 k'] w fun e w'=>e=.returned (.int .i64 (val s p k))∧w'=w:=by
 subst hp' hk'
 exact am3 s p k w hs hk hp
def a2c (s:ByteArray):Nat:=Crc.sum (s.data.toList.take (s.size-4))
theorem a7p (s:ByteArray) (n:Nat):(s.extract 0 n).data.toList=s.data.toList.take n:=by
 rw [ByteArray.data_extract]
 simp
def rSeal (N:Int) (s:ByteArray):Option (Option Int):=
 if (s.size:Int)<9+2 * N then some (some s.size) else if marked s=false then some (some 0) else if val s (s.size-4) 4≠a2c s then some (some ((s.size:Int)-4)) else none
set_option maxHeartbeats 2000000 in
theorem af0 (a0 a1:Addr) (N W B L:Int) (s:ByteArray) (w:World) (hw:Sent w a0 a1) (h1:2≤N) (h2:N≤8) (hs:s.size≤maxLen) :
  Calls Tryz.prog 184 #[.agg #[.int .i64 N,.int .i64 W,.int .i64 B,.int .i64 L],.string s] w fun e w'=>(∃ v,e=.returned v∧IsF a1 v (rSeal N s))∧Below w.heap.size w w':=by
 have HW:Hid (Sent w a0 a1):=hw
 have HS:Hid (s.size≤maxLen):=hs
 unfold maxLen at hs
 clear hw
 go_enter Tryz.func184,Tryz.ntmps184
 go_wp2_with fail
 refine (a3n N W B L h1 h2 _).mono ?_
 rintro e w1 ⟨rfl,hb⟩
 have HB:Hid (Below w.heap.size w w1):=bthen (a00 _ _) hb
 clear hb
 by_cases c1:(s.size:Int)<9+2 * N
 ·have HR:Hid (rSeal N s=some (some (s.size:Int))):=if_pos c1
  go_wp2_with (go_at_call 209;refine (a0n a0 a1 _ _ _ (HW.out.below HB.out)).mono ?_;rintro e w' ⟨rfl,rfl⟩)
  go_ret
  rw [HR.out]
  exact ⟨⟨_,rfl,IsF.at a1 _ _⟩,HB.out⟩
 ·have hn:13≤s.size:=by omega
  cases c2:marked s with
  | false =>
   have HR:Hid (rSeal N s=some (some 0)):=by show rSeal N s=_;unfold rSeal;rw [if_neg c1,if_pos c2]
   have HM:Hid (marked s=false):=c2
   clear c2
   go_wp2_with fail
   refine (ab0 s _ (by omega) HS.out).mono ?_
   rintro e w2 ⟨rfl,rfl⟩
   rw [HM.out]
   go_wp2_with (go_at_call 209;refine (a0n a0 a1 _ _ _ (HW.out.below HB.out)).mono ?_;rintro e w' ⟨rfl,rfl⟩)
   go_ret
   rw [HR.out]
   exact ⟨⟨_,rfl,IsF.at a1 _ _⟩,HB.out⟩
  | true =>
   have HM:Hid (marked s=true):=c2
   have HR:Hid (rSeal N s=if val s (s.size-4) 4≠a2c s then some (some ((s.size:Int)-4)) else none):=by show rSeal N s=_;unfold rSeal;rw [if_neg c1,if_neg (by rw [c2];simp)]
   clear c2
   go_wp2_with fail
   refine (ab0 s _ (by omega) HS.out).mono ?_
   rintro e w2 ⟨rfl,rfl⟩
   rw [HM.out]
   have hi:(4:Int)≤(s.size:Int):=by omega
   have HX:Hid (∀ w,Calls Tryz.prog 183 #[.string (s.extract 0 (s.size-4))] w fun e w'=>e=.returned (.int .i64 (a2c s))∧w'=w):=fun w=>by
    have:=a5h (s.extract 0 (s.size-4)) w (by rw [ByteArray.size_extract];have:=HS.out;omega)
    rw [a7p] at this
    exact this
   have HN:Hid (∀ w,Calls Tryz.prog 211 #[.string s,.int .i64 ((s.size:Int)-4),.int .i64 4] w fun e w'=>e=.returned (.int .i64 (val s (s.size-4) 4))∧w'=w):=fun w=>a2j s ((s.size:Int)-4) 4 (s.size-4) 4 (by omega) rfl w HS.out (by omega) (by omega)
   generalize val s (s.size-4) 4=x at *
   generalize a2c s=y at *
   by_cases c3:x=y
   ·subst c3
    have HRR:Hid (rSeal N s=none):=by have:=HR.out;rw [if_neg (by simp)] at this;exact this
    clear HR
    go_wp2_with fail
    go_quiet ((first|(go_at_call 211;exact Calls.quiet_of_same (HN.out _))|(go_at_call 183;exact Calls.quiet_of_same (HX.out _))))
    go_wp2
    go_ret
    rw [HRR.out]
    exact ⟨⟨_,rfl,IsF.nil a1⟩,below_drewN HB.out _⟩
   ·have HRR:Hid (rSeal N s=some (some ((s.size:Int)-4))):=by have:=HR.out;rw [if_pos c3] at this;exact this
    have c3b:((x:Int) != (y:Int))=true:=bne_iff_ne.2 (by omega)
    clear HR c3
    go_wp2_with fail
    go_quiet ((first|(go_at_call 211;exact Calls.quiet_of_same (HN.out _))|(go_at_call 183;exact Calls.quiet_of_same (HX.out _))))
    go_wp2_with (go_at_call 209;refine (a0n a0 a1 _ _ _ (HW.out.below (below_drewN HB.out _))).mono ?_;rintro e w' ⟨rfl,rfl⟩)
    go_ret
    rw [HRR.out]
    exact ⟨⟨_,rfl,IsF.at a1 _ _⟩,below_drewN HB.out _⟩
def vecOf (s:ByteArray) (p n:Nat):List Int:=(List.range n).map fun q=>(val s (p+2 * q) 2:Int)
theorem a06 (s:ByteArray) (p n:Nat):(vecOf s p n).length=n:=by simp [vecOf]
theorem a4r (s:ByteArray) (p n:Nat):vecOf s p (n+1)=vecOf s p n++[(val s (p+2 * n) 2:Int)]:=by simp [vecOf,List.range_succ]
theorem aj0 (s:ByteArray) (p n i:Nat) (h:i<n):(vecOf s p n).getD i 0=(val s (p+2 * i) 2:Int):=by
 simp [vecOf,List.getD_eq_getElem?_getD,h]
theorem b7s {s:ByteArray} {p n k:Nat} (h:k<n):(vecOf s p k++List.replicate (n-k) 0).set k (val s (p+2 * k) 2:Int)=vecOf s p (k+1)++List.replicate (n-(k+1)) 0:=by
 obtain ⟨d,rfl⟩:∃ d,n=k+1+d:=⟨n-k-1,by omega⟩
 rw [show k+1+d-k=d+1 by omega,show k+1+d-(k+1)=d by omega,List.replicate_succ,List.set_append_right _ _ (by simp [a06]),a06,Nat.sub_self,List.set_cons_zero,a4r,List.append_assoc]
 rfl
set_option maxHeartbeats 2000000 in
theorem a5b (n:Nat) (W B L:Int) (s:ByteArray) (p:Nat) (p':Int) (hp':p'=(p:Int)) (w:World) (h1:2≤n) (h2:n≤8) (hs:s.size≤maxLen) (hp:p+2 * n≤s.size) :
  Calls Tryz.prog 231 #[.agg #[.int .i64 (n:Int),.int .i64 W,.int .i64 B,.int .i64 L],.string s,.int .i64 p'] w fun e w'=>e=.returned (.slice (some ⟨w.heap.size+1,0,none⟩) n n)∧RowI w' (w.heap.size+1) (vecOf s p n)∧Below w.heap.size w w':=by
 subst hp'
 have HS:Hid (s.size≤maxLen):=hs
 unfold maxLen at hs
 obtain ⟨i0,hi,hz0,hz1,hz2⟩:=info_parts Tryz.a3d
 go_enter Tryz.func231,Tryz.ntmps231
 go_wp2_with (at_make;refine wpList_make_full _ rfl (.tmp 10) (.tmp 10) 34 rfl (w.heap.size+1) 3 i0 (.int .i64 0) 1 Tryz.underlying34 hi hz0 hz1 .i64 .i64 _ _ n rfl rfl ?m1 ?m2 ?m3 ?m4 ?m5 ?_)
 case m1=>rfl
 case m2=>rfl
 case m3=>rw [hz2];omega
 case m4=>unfold maxLen;omega
 case m5=>simp
 intro w1 hown1 hgrow1
 rw [a9j] at hown1
 have hr1:=a5g hown1
 have HB1:Hid (Below w.heap.size w w1):=(a00 _ _).trans (((Below.refl _ _).grown hgrow1 (Nat.le_refl _) (fun k hk=>by cases hk)).mono (by simp))
 have hr2:RowI w1 (w.heap.size+1) (List.replicate n 0):=by simpa using hr1
 have HR1:Hid (RowI w1 (w.heap.size+1) (List.replicate n 0)):=hr2
 clear hown1 hgrow1 hr1 hr2
 go_wp2
 go_loopw [14] (fun c wr=>∃ k:Nat,k≤n∧c=.int .i64 k∧RowI wr (w.heap.size+1) (vecOf s p k++List.replicate (n-k) 0)∧Below w.heap.size w wr) (fun c _=>n-(intOf c).toNat)
 case atStart=>exact ⟨0,Nat.zero_le _,rfl,by simpa [vecOf] using HR1.out,HB1.out⟩
 case round =>
  obtain ⟨k,hk,rfl,hr,hb⟩:=hrel
  have HR:Hid (RowI wr (w.heap.size+1) (vecOf s p k++List.replicate (n-k) 0)):=hr
  have HB:Hid (Below w.heap.size w wr):=hb
  clear hr hb
  by_cases hlt:k<n
  ·have hc:=HR.out.cell (j:=k) (by simp [a06];omega)
   have hf:=HR.out.free k
   have HN:Hid (RowI (wr.setCell ⟨w.heap.size+1,k,none⟩ (.int .i64 (val s (p+2 * k) 2))) (w.heap.size+1) (vecOf s p (k+1)++List.replicate (n-(k+1)) 0)):=by have:=HR.out.set k (val s (p+2 * k) 2:Int);rw [b7s hlt] at this;exact this
   generalize hgz:(vecOf s p k++List.replicate (n-k) 0).getD k 0=z at hc
   clear hgz
   have HX:Hid (∀ w,Calls Tryz.prog 211 #[.string s,.int .i64 ((p:Int)+2 * (k:Int)),.int .i64 2] w fun e w'=>e=.returned (.int .i64 (val s (p+2 * k) 2))∧w'=w):=fun w=>a2j s ((p:Int)+2 * (k:Int)) 2 (p+2 * k) 2 (by omega) rfl w HS.out (by omega) (by omega)
   generalize val s (p+2 * k) 2=y at *
   go_wp2_with (go_at_call 211;refine (HX.out _).mono ?_;rintro e w' ⟨rfl,rfl⟩)
   go_roundw
   case rel=>exact ⟨k+1,by omega,by go_num,HN.out,HB.out.setCell (by show w.heap.size≤w.heap.size+1;omega) _⟩
   case measure=>simp [intOf];omega
  ·have hr:=HR.out
   have hkn:k=n:=by omega
   rw [hkn,Nat.sub_self,List.replicate_zero,List.append_nil] at hr
   have HRn:Hid (RowI wr (w.heap.size+1) (vecOf s p n)):=hr
   clear hr hkn
   go_wp2
   go_ret
   exact ⟨rfl,HRn.out,HB.out⟩
def FrV (fv:Value):Prop:=∃ (K F O S Lw:Int) (ad:Option Addr) (len cap:Nat) (body:ByteArray),fv=.agg #[.int .i64 K,.int .i64 F,.int .i64 O,.int .i64 S,.int .i64 Lw,.slice ad len cap,.string body]
structure Got (w':World) (base n:Nat) (K F O S Lw:Int) (vs:List Int) (body:ByteArray) (fv:Value):Prop where
 is:∃ g,base≤g∧fv=.agg #[.int .i64 K,.int .i64 F,.int .i64 O,.int .i64 S,.int .i64 Lw,.slice (some ⟨g,0,none⟩) n n,.string body]∧RowI w' g vs
def a2e (n:Nat) (L:Int) (s:ByteArray):Option (Option Int):=if (s.size:Int)=9+2 * n then rVec n L 2 0 0 (vecOf s 5 n) else some (some s.size)
theorem a0b {B:Nat} {a w:World} (h:Below B a w) {b:Nat} (hb:B≤b) (v0 v1 v2 v3 v4 v5 v6:Value) :
  Below B a (((((((w.setCell ⟨b,0,none⟩ v0).setCell ⟨b,1,none⟩ v1).setCell ⟨b,2,none⟩ v2).setCell ⟨b,3,none⟩ v3).setCell ⟨b,4,none⟩ v4).setCell ⟨b,5,none⟩ v5).setCell ⟨b,6,none⟩ v6):=
 ((((((h.setCell hb _).setCell hb _).setCell hb _).setCell hb _).setCell hb _).setCell hb _).setCell hb _
theorem RowI.other {w:World} {g:Nat} {zs:List Int} (h:RowI w g zs) (a:Addr) (v:Value) (hne:g≠a.block):RowI (w.setCell a v) g zs:=(heap_setCell_other w a g v hne).trans h
theorem RowI.set7 {w:World} {g:Nat} {zs:List Int} (h:RowI w g zs) {b:Nat} (hne:g≠b) (v0 v1 v2 v3 v4 v5 v6:Value) :
  RowI (((((((w.setCell ⟨b,0,none⟩ v0).setCell ⟨b,1,none⟩ v1).setCell ⟨b,2,none⟩ v2).setCell ⟨b,3,none⟩ v3).setCell ⟨b,4,none⟩ v4).setCell ⟨b,5,none⟩ v5).setCell ⟨b,6,none⟩ v6) g zs:=
 ((((((h.other _ _ hne).other _ _ hne).other _ _ hne).other _ _ hne).other _ _ hne).other _ _ hne).other _ _ hne
structure Room (z:Nat) (x:World):Prop where
 r:∀ i,i<7→∃ v,x.cell? ⟨z+1+1,i,none⟩=some v
 f1:∀ i,x.frozen? ⟨z+1,i,none⟩=false
 f2:∀ i,x.frozen? ⟨z+1+1,i,none⟩=false
 z:z+1+1<x.heap.size
theorem Room.below {z:Nat} {x y:World} (h:Room z x) {b:Nat} (hb:Below b x y) (hz:z+1+1<b):Room z y:=
 ⟨fun i hi=>by obtain ⟨v,hv⟩:=h.r i hi;exact ⟨v,(hb.cell (p:=⟨z+1+1,i,none⟩) hz).trans hv⟩,fun i=>(hb.frozen (p:=⟨z+1,i,none⟩) (by show z+1<b;omega)).trans (h.f1 i),fun i=>(hb.frozen (p:=⟨z+1+1,i,none⟩) hz).trans (h.f2 i),Nat.lt_of_lt_of_le h.z hb.size⟩
theorem a1x (w:World) (a p:Addr) (v:Value):(w.setCell a v).frozen? p=w.frozen? p:=by
 go_simp
theorem Room.store {z:Nat} {x:World} (h:Room z x) (i:Nat) (v:Value):Room z (x.setCell ⟨z+1,i,none⟩ v):=
 ⟨fun j hj=>by
  obtain ⟨u,hu⟩:=h.r j hj
  exact ⟨u,(World.cell?_of_block (w:=x) (a:=⟨z+1+1,j,none⟩) (heap_setCell_other x ⟨z+1,i,none⟩ (z+1+1) v (by show z+1+1≠z+1;omega))).trans hu⟩,
  fun j=>(a1x _ _ _ _).trans (h.f1 j),fun j=>(a1x _ _ _ _).trans (h.f2 j),by simpa [World.setCell] using h.z⟩
theorem Room.seven {z:Nat} {x:World} (h:Room z x) (v0 v1 v2 v3 v4 v5 v6:Value) (X:World)
  (hX:X=(((((((x.setCell ⟨z+1+1,0,none⟩ v0).setCell ⟨z+1+1,1,none⟩ v1).setCell ⟨z+1+1,2,none⟩ v2).setCell ⟨z+1+1,3,none⟩ v3).setCell ⟨z+1+1,4,none⟩ v4).setCell ⟨z+1+1,5,none⟩ v5).setCell ⟨z+1+1,6,none⟩ v6)) :
  X.cell? ⟨z+1+1,0,none⟩=some v0∧X.cell? ⟨z+1+1,1,none⟩=some v1∧X.cell? ⟨z+1+1,2,none⟩=some v2∧X.cell? ⟨z+1+1,3,none⟩=some v3∧X.cell? ⟨z+1+1,4,none⟩=some v4∧X.cell? ⟨z+1+1,5,none⟩=some v5∧X.cell? ⟨z+1+1,6,none⟩=some v6:=by
 obtain ⟨u0,h0⟩:=h.r 0 (by omega)
 obtain ⟨u1,h1⟩:=h.r 1 (by omega)
 obtain ⟨u2,h2⟩:=h.r 2 (by omega)
 obtain ⟨u3,h3⟩:=h.r 3 (by omega)
 obtain ⟨u4,h4⟩:=h.r 4 (by omega)
 obtain ⟨u5,h5⟩:=h.r 5 (by omega)
 obtain ⟨u6,h6⟩:=h.r 6 (by omega)
 subst hX
 refine ⟨?_,?_,?_,?_,?_,?_,?_⟩<;>go_simp
theorem aa2 (w:World) (oc:Obj) (f r:Array Value) (tf tr:TypeId) (hr:r.size=7):Room w.heap.size (((w.alloc oc).alloc (.cells f tf)).alloc (.cells r tr)):=by
 have e:((w.alloc oc).alloc (.cells f tf)).heap.size=w.heap.size+1+1:=by simp
 refine ⟨fun i hi=>⟨r[i]'(by omega),?_⟩,fun i=>?_,fun i=>?_,by simp⟩
 ·rw [←e,cell_of_row _ _ i r tr (0,0) (heap_alloc_new _ _)]
  exact Array.getElem?_eq_getElem _
 ·have:=frozen_of_row (((w.alloc oc).alloc (.cells f tf)).alloc (.cells r tr)) (w.heap.size+1) i f tf (by
   rw [Below.heap_alloc _ _ _ (by simp)]
   have:=heap_alloc_new (w.alloc oc) (.cells f tf)
   simpa using this)
  exact this
 ·have:=frozen_of_row (((w.alloc oc).alloc (.cells f tf)).alloc (.cells r tr)) (w.heap.size+1+1) i r tr (by
   have:=heap_alloc_new ((w.alloc oc).alloc (.cells f tf)) (.cells r tr)
   rw [e] at this
   exact this)
  exact this
theorem a0k {w:World} {a b:Addr} {x v:Value} (h:w.cell? b=some x) (hne:b.block≠a.block):(w.setCell a v).cell? b=some x:=by
 rw [World.cell?_of_block (w:=w) (heap_setCell_other w a b.block v hne)];exact h
theorem Boxes.vec {z:Nat} {x:World} {N W B L K F O S Lw:Int} {ad ad':Option Addr} {len cap len' cap':Nat} {body:ByteArray} (h:Boxes z x N W B L K F O S Lw ad len cap body) :
  Boxes z (x.setCell ⟨z+1,5,none⟩ (.slice ad' len' cap')) N W B L K F O S Lw ad' len' cap' body:=by
 obtain ⟨c1,c2,c3,c4,c5,c6,c7,c8,c9,c10,c11,c12⟩:=h
 refine ⟨a0k c1 (by show z≠z+1;omega),a0k c2 (by show z≠z+1;omega),a0k c3 (by show z≠z+1;omega),a0k c4 (by show z≠z+1;omega),?_,?_,?_,?_,?_,?_,?_,?_⟩<;>go_simp
end Go.Proofs.YtabecbjfamphbaaGreatDoor
