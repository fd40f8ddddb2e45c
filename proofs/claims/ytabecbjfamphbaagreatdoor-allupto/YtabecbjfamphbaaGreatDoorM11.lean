/- A part of the proof. -/
import Derived.Test.YtabecbjfamphbaaGreatDoorM10
import Derived.Deep.RegionLaw
import Derived.Test.YtabecbjfamphbaaGreatDoorM08
import Derived.Deep.AppendLies
namespace Go.Proofs.YtabecbjfamphbaaGreatDoor
open Go.RowKit Go.Stop Go.Extern
set_option maxRecDepth 100000
def a03:List Int→List UInt8
 | []=>[]
 | v :: l=>num v.toNat 2++a03 l
theorem a3c (l m:List Int):a03 (l++m)=a03 l++a03 m:=by
 induction l with
 | nil=>rfl
 | cons v l ih=>simp [a03,ih]
theorem a0g (l:List Int):(a03 l).length=2 * l.length:=by
 induction l with
 | nil=>rfl
 | cons v l ih=>simp [a03,ih,a0j];omega
def a0a (N K F O S Lw:Int) (vs:List Int) (n:Nat):List UInt8:=
 [104,115,UInt8.ofNat K.toNat,UInt8.ofNat N.toNat,UInt8.ofNat F.toNat]++(if K=1 then UInt8.ofNat O.toNat :: (num S.toNat 2++num Lw.toNat 2) else [])++a03 vs++(if K=1 then [UInt8.ofNat n] else [])
theorem Own.str {w w':World} {base:Nat} {v v':Value} {l:List UInt8} (s:ByteArray) (m:List UInt8) (hs:s=txt m) (h:Own w base v l) (h':w'.ownsRow base 5 1 v' (l.length+s.size) (a3k l++Lib.strCells s)) (hg:w.grownBy w' v.ownBlock) (hb:base≤w.heap.size):Own w' base v' (l++m)∧Below base w w':=by
 refine ⟨?_,(Below.refl _ _).grown hg hb h.block⟩
 subst hs
 unfold Own
 rw [a6a,List.length_append]
 rw [a2d] at h'
 have e:Lib.strCells (txt m)=a3k m:=by simp [Lib.strCells,a3k,a6b]
 rw [e] at h'
 exact h'
theorem Own.mono {w:World} {b b':Nat} {v:Value} {l:List UInt8} (h:Own w b v l) (hb:b'≤b):Own w b' v l:=by
 refine ⟨h.1,?_⟩
 rcases h.2 with h2 | ⟨g,cap,cur,hv,hg,r⟩
 ·exact Or.inl h2
 ·exact Or.inr ⟨g,cap,cur,hv,Nat.le_trans hb hg,r⟩
theorem a6y {x:Int} (h:0≤x) (h2:x<256):x=((UInt8.ofNat x.toNat).toNat:Int):=by
 rw [UInt8.toNat_ofNat']
 omega
theorem a1h (base:Nat) (v:Value) (l:List UInt8) (x k':Int) (k:Nat) (hk':k'=(k:Int)) (w:World) (hown:Own w base v l) (hbase:base≤w.heap.size) (hx0:0≤x) (hx:x<4294967296) (hk:k≤4) (hl:l.length≤1000) :
  Calls Tryz.prog 182 #[v,.int .i64 x,.int .i64 k'] w fun e w'=>∃ v',e=.returned v'∧Own w' base v' (l++num x.toNat k)∧Below base w w':=by
 subst hk'
 obtain ⟨y,rfl⟩:=Int.eq_ofNat_of_zero_le hx0
 exact a7s base v l y k w hown hbase (by omega) hk hl
structure Boxes (z:Nat) (x:World) (N W B L K F O S Lw:Int) (ad:Option Addr) (len cap:Nat) (body:ByteArray):Prop where
 n:x.cell? ⟨z,0,none⟩=some (.int .i64 N)
 w:x.cell? ⟨z,1,none⟩=some (.int .i64 W)
 b:x.cell? ⟨z,2,none⟩=some (.int .i64 B)
 l:x.cell? ⟨z,3,none⟩=some (.int .i64 L)
 k:x.cell? ⟨z+1,0,none⟩=some (.int .i64 K)
 f:x.cell? ⟨z+1,1,none⟩=some (.int .i64 F)
 o:x.cell? ⟨z+1,2,none⟩=some (.int .i64 O)
 s:x.cell? ⟨z+1,3,none⟩=some (.int .i64 S)
 lw:x.cell? ⟨z+1,4,none⟩=some (.int .i64 Lw)
 v:x.cell? ⟨z+1,5,none⟩=some (.slice ad len cap)
 t:x.cell? ⟨z+1,6,none⟩=some (.string body)
 z:z+2≤x.heap.size
theorem a0x (w:World) (N W B L K F O S Lw:Int) (ad:Option Addr) (len cap:Nat) (body:ByteArray) (tc tf:TypeId) :
  Boxes w.heap.size ((w.alloc (.cells #[.int .i64 N,.int .i64 W,.int .i64 B,.int .i64 L] tc)).alloc (.cells #[.int .i64 K,.int .i64 F,.int .i64 O,.int .i64 S,.int .i64 Lw,.slice ad len cap,.string body] tf)) N W B L K F O S Lw ad len cap body:=by
 refine ⟨?_,?_,?_,?_,?_,?_,?_,?_,?_,?_,?_,?_⟩<;>simp
theorem Boxes.below {z:Nat} {x y:World} {N W B L K F O S Lw:Int} {ad:Option Addr} {len cap:Nat} {body:ByteArray} (h:Boxes z x N W B L K F O S Lw ad len cap body) {b:Nat} (hb:Below b x y) (hz:z+2≤b):Boxes z y N W B L K F O S Lw ad len cap body:=by
 have e0:∀ o,y.cell? ⟨z,o,none⟩=x.cell? ⟨z,o,none⟩:=fun o=>hb.cell (p:=⟨z,o,none⟩) (by show z<b;omega)
 have e1:∀ o,y.cell? ⟨z+1,o,none⟩=x.cell? ⟨z+1,o,none⟩:=fun o=>hb.cell (p:=⟨z+1,o,none⟩) (by show z+1<b;omega)
 exact ⟨(e0 _).trans h.n,(e0 _).trans h.w,(e0 _).trans h.b,(e0 _).trans h.l,(e1 _).trans h.k,(e1 _).trans h.f,(e1 _).trans h.o,(e1 _).trans h.s,(e1 _).trans h.lw,(e1 _).trans h.v,(e1 _).trans h.t,Nat.le_trans h.z hb.size⟩
theorem a81 {vs:List Int} {k:Nat} {x:Int} (hk:k<vs.length) (hx:x=vs.getD k 0):a03 (vs.take (k+1))=a03 (vs.take k)++num x.toNat 2:=by
 rw [List.take_succ_eq_append_getElem hk,a3c,hx]
 simp [a03,List.getD_eq_getElem?_getD,hk]
theorem au7 {vs:List Int} (hv:∀ v∈vs,0≤v∧v≤65535) {k:Nat} {x:Int} (hk:k<vs.length) (hx:x=vs.getD k 0):0≤x∧x≤65535:=by
 rw [hx,List.getD_eq_getElem?_getD,List.getElem?_eq_getElem hk]
 exact hv _ (List.getElem_mem hk)
set_option maxHeartbeats 4000000 in
theorem a9k (N W B L F O S Lw:Int) (ad:Option Addr) (len cap:Nat) (body:ByteArray) (vs:List Int) (w:World) (hi:Ints w ad len vs)
  (hN1:2≤N) (hN2:N≤8) (hF1:0≤F) (hF2:F<N) (hO1:0≤O) (hO2:O<N) (hS1:1≤S) (hS2:S≤65535) (hL1:0≤Lw) (hL2:Lw<S) (hlen:len≤8) (hbd:body.size≤40) (hv:∀ v∈vs,0≤v∧v≤65535) :
  Calls Tryz.prog 181 #[.slice none 0 0,.agg #[.int .i64 N,.int .i64 W,.int .i64 B,.int .i64 L],.agg #[.int .i64 1,.int .i64 F,.int .i64 O,.int .i64 S,.int .i64 Lw,.slice ad len cap,.string body]] w fun e w'=>(∃ v,e=.returned v∧Own w' w.heap.size v (a0a N 1 F O S Lw vs body.size))∧Below w.heap.size w w':=by
 have HI:Hid (Ints w ad len vs):=hi
 have HV:Hid (∀ v∈vs,0≤v∧v≤65535):=hv
 clear hi hv
 obtain ⟨i0,hi,hz0,hz1,hz2⟩:=info_parts Tryz.infoByte
 have BX0:=a0x w N W B L 1 F O S Lw ad len cap body 26 45
 have HBX0:Hid _:=BX0
 clear BX0
 have B0:=a09 w (.cells #[.int .i64 N,.int .i64 W,.int .i64 B,.int .i64 L] 26) (.cells #[.int .i64 1,.int .i64 F,.int .i64 O,.int .i64 S,.int .i64 Lw,.slice ad len cap,.string body] 45)
 have HB0:Hid _:=B0
 clear B0
 go_enter Tryz.func181,Tryz.ntmps181
 go_wp2_with (at_builtin;refine Lib.wpList_append_own_string _ rfl (.tmp 9) _ 241 9 rfl (w.heap.size+2) 5 i0 Tryz.underlying241 Tryz.underlying9 hi hz0 hz1 hz2 _ _ _ rfl (Own.nil _ _) _ rfl ?a1 ?a2 ?a3 ?_)
 case a1=>decide
 case a2=>decide
 case a3=>simp
 intro v1 w1 hown1 hgrow1 _
 have R1:=Own.str _ [104,115] rfl (Own.nil _ _) hown1 hgrow1 (by simp)
 have HO1:Hid _:=R1.1
 have HB1:Hid _:=R1.2
 have BX1:=HBX0.out.below R1.2 (Nat.le_refl _)
 have HBX1:Hid _:=BX1
 obtain ⟨cN,cW,cB,cL,cK,cF,cO,cS,cLw,cV,cT,cz⟩:=BX1
 clear hown1 hgrow1 R1
 go_wp2_with (at_builtin;refine wpList_append_own _ rfl (.tmp 11) (.tmp 21) 241 rfl (w.heap.size+2) 5 i0 (.int .u8 0) 1 1 Tryz.underlying241 hi hz0 hz1 hz2 rfl (by decide) _ _ _ rfl (HO1.out.alloc _) ⟨w1.heap.size,0,none⟩ 3 3 [.int .u8 1,.int .u8 N,.int .u8 F] rfl rfl ?b1 ?b2 ?b3 ?b4 ?b5 ?_)
 case b1 =>
  intro q u hq
  match q,hq with
  | 0,hq=>simp at hq;subst hq;simp [Addr.add]
  | 1,hq=>simp at hq;subst hq;simp [Addr.add]
  | 2,hq=>simp at hq;subst hq;simp [Addr.add]
 case b2=>intro u hu;simp at hu;rcases hu with rfl | rfl | rfl<;>rfl
 case b3=>decide
 case b4=>decide
 case b5=>simp;omega
 intro v2 w2 hown2 hgrow2 _
 have R2:=Own.snoc [1,UInt8.ofNat N.toNat,UInt8.ofNat F.toNat] _ (by show _=[Value.int .u8 1,.int .u8 ((UInt8.ofNat N.toNat).toNat:Int),.int .u8 ((UInt8.ofNat F.toNat).toNat:Int)];rw [←a6y (by omega) (by omega),←a6y hF1 (by omega)]) 3 rfl _ HO1.out hown2 hgrow2 cz
 have HO2:Hid _:=R2.1
 have HB2:Hid _:=R2.2
 have BX2:=HBX1.out.below R2.2 (Nat.le_refl _)
 have HBX2:Hid _:=BX2
 clear cN cW cB cL cK cF cO cS cLw cV cT cz
 obtain ⟨cN,cW,cB,cL,cK,cF,cO,cS,cLw,cV,cT,cz⟩:=BX2
 clear hown2 hgrow2 R2
 go_wp2_with (at_builtin;refine wpList_append_own _ rfl (.tmp 26) (.tmp 30) 241 rfl (w.heap.size+2) 5 i0 (.int .u8 0) 1 1 Tryz.underlying241 hi hz0 hz1 hz2 rfl (by decide) _ _ _ rfl (HO2.out.alloc _) ⟨w2.heap.size,0,none⟩ 1 1 [.int .u8 O] rfl rfl ?d1 ?d2 ?d3 ?d4 ?d5 ?_)
 case d1 =>
  intro q u hq
  match q,hq with
  | 0,hq=>simp at hq;subst hq;simp [Addr.add]
 case d2=>intro u hu;simp at hu;subst hu;rfl
 case d3=>unfold maxLen;simp
 case d4=>simp
 case d5=>simp;omega
 intro v3 w3 hown3 hgrow3 _
 have R3:=Own.snoc [UInt8.ofNat O.toNat] _ (by show _=[Value.int .u8 ((UInt8.ofNat O.toNat).toNat:Int)];rw [←a6y hO1 (by omega)]) 1 rfl _ HO2.out hown3 hgrow3 cz
 have HO3:Hid _:=R3.1
 have HB3:Hid _:=R3.2
 have BX3:=HBX2.out.below R3.2 (Nat.le_refl _)
 have HBX3:Hid _:=BX3
 clear cN cW cB cL cK cF cO cS cLw cV cT cz
 obtain ⟨cN,cW,cB,cL,cK,cF,cO,cS,cLw,cV,cT,cz⟩:=BX3
 clear hown3 hgrow3 R3
 go_wp2_with fail
 refine (a1h (w.heap.size+2) v3 _ S 2 2 rfl w3 HO3.out cz (by omega) (by omega) (by omega) (by simp)).mono ?_
 rintro e w4 ⟨v4,rfl,hown4,hb4⟩
 have HO4:Hid _:=hown4
 have HB4:Hid _:=hb4
 have BX4:=HBX3.out.below hb4 (Nat.le_refl _)
 have HBX4:Hid _:=BX4
 clear cN cW cB cL cK cF cO cS cLw cV cT cz
 obtain ⟨cN,cW,cB,cL,cK,cF,cO,cS,cLw,cV,cT,cz⟩:=BX4
 clear hown4 hb4
 go_wp2_with fail
 refine (a1h (w.heap.size+2) v4 _ Lw 2 2 rfl w4 HO4.out cz (by omega) (by omega) (by omega) (by simp [a0j])).mono ?_
 rintro e w5 ⟨v5,rfl,hown5,hb5⟩
 have HO5:Hid _:=hown5
 have HB5:Hid _:=hb5
 have BX5:=HBX4.out.below hb5 (Nat.le_refl _)
 have HBX5:Hid _:=BX5
 clear cN cW cB cL cK cF cO cS cLw cV cT cz
 obtain ⟨cN,cW,cB,cL,cK,cF,cO,cS,cLw,cV,cT,cz⟩:=BX5
 clear hown5 hb5
 obtain ⟨pre,hpre⟩:∃ pre,pre=[]++[104,115]++[1,UInt8.ofNat N.toNat,UInt8.ofNat F.toNat]++[UInt8.ofNat O.toNat]++num S.toNat 2++num Lw.toNat 2:=⟨_,rfl⟩
 have hpl:pre.length=10:=by rw [hpre];simp [a0j]
 have HP:Hid (pre=[]++[104,115]++[1,UInt8.ofNat N.toNat,UInt8.ofNat F.toNat]++[UInt8.ofNat O.toNat]++num S.toNat 2++num Lw.toNat 2):=hpre
 have HO6:Hid (Own w5 (w.heap.size+2) v5 pre):=by rw [hpre];exact HO5.out
 clear HO5 hpre
 have HPL:Hid (pre.length=10):=hpl
 clear hpl
 have HBall:Hid (Below (w.heap.size+2) ((w.alloc (.cells #[.int .i64 N,.int .i64 W,.int .i64 B,.int .i64 L] 26)).alloc (.cells #[.int .i64 1,.int .i64 F,.int .i64 O,.int .i64 S,.int .i64 Lw,.slice ad len cap,.string body] 45)) w5):=HB1.out.trans (HB2.out.trans (HB3.out.trans (HB4.out.trans HB5.out)))
 clear HO1 HO2 HO3 HO4 HB1 HB2 HB3 HB4 HB5 HBX1 HBX2 HBX3 HBX4
 have hlen8:(len:Int)≤8:=by omega
 have HL:Hid (vs.length=len):=HI.out.len
 go_wp2
 go_loopw [0,43] (fun u c wr=>∃ k:Nat,k≤len∧c=.int .i64 k∧Own wr (w.heap.size+2) u (pre++a03 (vs.take k))∧Below (w.heap.size+2) w5 wr) (fun _ c _=>len-(intOf c).toNat)
 case atStart=>exact ⟨0,Nat.zero_le _,rfl,by simpa [a03] using HO6.out,Below.refl _ _⟩
 case round =>
  obtain ⟨k,hk,rfl,hown,hbel⟩:=hrel
  have HO:Hid (Own wr (w.heap.size+2) _ (pre++a03 (vs.take k))):=hown
  have HB:Hid (Below (w.heap.size+2) w5 wr):=hbel
  have HBX:Hid _:=HBX5.out.below hbel (Nat.le_refl _)
  have BXr:=HBX.out
  clear hown hbel cN cW cB cL cK cF cO cS cLw cV cT cz
  obtain ⟨cN,cW,cB,cL,cK,cF,cO,cS,cLw,cV,cT,cz⟩:=BXr
  by_cases hlt:k<len
  ·obtain ⟨b,off,rfl,hbl,hcell⟩:=HI.out.cell k hlt
   obtain ⟨x,hx⟩:∃ x,x=vs.getD k 0:=⟨_,rfl⟩
   rw [←hx] at hcell
   have HX:Hid (x=vs.getD k 0):=hx
   clear hx
   have hxb:=au7 HV.out (by rw [HL.out];exact hlt) HX.out
   obtain ⟨hx0,hx1⟩:=hxb
   have hcr:wr.cell? ⟨b,off+k,none⟩=some (.int .i64 x):=by
    have e1:=(HBall.out.trans HB.out).cell (p:=⟨b,off+k,none⟩) (show b<w.heap.size+2 by omega)
    have e2:=HB0.out.cell (p:=⟨b,off+k,none⟩) hbl
    rw [e1,e2];exact hcell
   clear hcell
   go_wp2_with fail
   refine (a1h (w.heap.size+2) _ _ x 2 2 rfl wr HO.out cz hx0 (by omega) (by omega) (by have:=a0g (vs.take k);have h2:=List.length_take_le k vs;simp [HPL.out,this];omega)).mono ?_
   rintro e w6 ⟨v6,rfl,hown6,hb6⟩
   have HO7:Hid (Own w6 (w.heap.size+2) v6 (pre++a03 (vs.take (k+1)))):=by
    rw [a81 (by rw [HL.out];exact hlt) HX.out,←List.append_assoc];exact hown6
   have HB7:Hid _:=hb6
   clear hown6 hb6
   go_wp2
   go_roundw
   case rel=>exact ⟨k+1,by omega,by go_num,HO7.out,HB.out.trans HB7.out⟩
   case measure=>simp [intOf];omega
  ·have ho8:=HO.out
   rw [List.take_of_length_le (by rw [HL.out];omega)] at ho8
   have HO8:Hid _:=ho8
   clear HO ho8
   go_wp2_with (at_builtin;refine wpList_append_own _ rfl (.tmp 54) (.tmp 59) 241 rfl (w.heap.size+2) 5 i0 (.int .u8 0) 1 1 Tryz.underlying241 hi hz0 hz1 hz2 rfl (by decide) _ _ _ rfl (HO8.out.alloc _) ⟨wr.heap.size,0,none⟩ 1 1 [.int .u8 (body.size:Int)] rfl rfl ?e1 ?e2 ?e3 ?e4 ?e5 ?_)
   case e1 =>
    intro q u hq
    match q,hq with
    | 0,hq=>simp at hq;subst hq;simp [Addr.add]
   case e2=>intro u hu;simp at hu;subst hu;rfl
   case e3=>have:=a0g vs;have h9:=HL.out;have h8:=HPL.out;unfold maxLen;simp [h8,this];omega
   case e4=>have:=a0g vs;have h9:=HL.out;have h8:=HPL.out;simp [h8,this];omega
   case e5=>simp;omega
   intro v9 w9 hown9 hgrow9 _
   rw [←List.length_append] at hown9
   have R9:=Own.snoc [UInt8.ofNat body.size] [Value.int .u8 (body.size:Int)] (by show _=[Value.int .u8 ((UInt8.ofNat body.size).toNat:Int)];have:=a6y (x:=(body.size:Int)) (by omega) (by omega);rw [Int.toNat_natCast] at this;rw [←this]) 1 rfl _ HO8.out hown9 hgrow9 cz
   have HO9:Hid _:=R9.1
   have HB9:Hid _:=R9.2
   clear hown9 hgrow9 R9
   go_wp2
   go_ret
   refine ⟨⟨_,rfl,?_⟩,HB0.out.trans ((HBall.out.trans (HB.out.trans HB9.out)).mono (by omega))⟩
   have h9:=HO9.out
   rw [HP.out] at h9
   have e:a0a N 1 F O S Lw vs body.size=[]++[104,115]++[1,UInt8.ofNat N.toNat,UInt8.ofNat F.toNat]++[UInt8.ofNat O.toNat]++num S.toNat 2++num Lw.toNat 2++a03 vs++[UInt8.ofNat body.size]:=by
    simp [a0a]
   rw [e]
   exact Own.mono h9 (by omega)
set_option maxHeartbeats 4000000 in
theorem a7t (N W B L F O S Lw:Int) (ad:Option Addr) (len cap:Nat) (body:ByteArray) (vs:List Int) (w:World) (hi:Ints w ad len vs)
  (hN1:2≤N) (hN2:N≤8) (hF1:0≤F) (hF2:F<N) (hlen:len≤8) (hv:∀ v∈vs,0≤v∧v≤65535) :
  Calls Tryz.prog 181 #[.slice none 0 0,.agg #[.int .i64 N,.int .i64 W,.int .i64 B,.int .i64 L],.agg #[.int .i64 2,.int .i64 F,.int .i64 O,.int .i64 S,.int .i64 Lw,.slice ad len cap,.string body]] w fun e w'=>(∃ v,e=.returned v∧Own w' w.heap.size v (a0a N 2 F O S Lw vs body.size))∧Below w.heap.size w w':=by
 have HI:Hid (Ints w ad len vs):=hi
 have HV:Hid (∀ v∈vs,0≤v∧v≤65535):=hv
 clear hi hv
 obtain ⟨i0,hi,hz0,hz1,hz2⟩:=info_parts Tryz.infoByte
 have BX0:=a0x w N W B L 2 F O S Lw ad len cap body 26 45
 have HBX0:Hid _:=BX0
 clear BX0
 have B0:=a09 w (.cells #[.int .i64 N,.int .i64 W,.int .i64 B,.int .i64 L] 26) (.cells #[.int .i64 2,.int .i64 F,.int .i64 O,.int .i64 S,.int .i64 Lw,.slice ad len cap,.string body] 45)
 have HB0:Hid _:=B0
 clear B0
 go_enter Tryz.func181,Tryz.ntmps181
 go_wp2_with (at_builtin;refine Lib.wpList_append_own_string _ rfl (.tmp 9) _ 241 9 rfl (w.heap.size+2) 5 i0 Tryz.underlying241 Tryz.underlying9 hi hz0 hz1 hz2 _ _ _ rfl (Own.nil _ _) _ rfl ?a1 ?a2 ?a3 ?_)
 case a1=>decide
 case a2=>decide
 case a3=>simp
 intro v1 w1 hown1 hgrow1 _
 have R1:=Own.str _ [104,115] rfl (Own.nil _ _) hown1 hgrow1 (by simp)
 have HO1:Hid _:=R1.1
 have HB1:Hid _:=R1.2
 have BX1:=HBX0.out.below R1.2 (Nat.le_refl _)
 have HBX1:Hid _:=BX1
 obtain ⟨cN,cW,cB,cL,cK,cF,cO,cS,cLw,cV,cT,cz⟩:=BX1
 clear hown1 hgrow1 R1
 go_wp2_with (at_builtin;refine wpList_append_own _ rfl (.tmp 11) (.tmp 21) 241 rfl (w.heap.size+2) 5 i0 (.int .u8 0) 1 1 Tryz.underlying241 hi hz0 hz1 hz2 rfl (by decide) _ _ _ rfl (HO1.out.alloc _) ⟨w1.heap.size,0,none⟩ 3 3 [.int .u8 2,.int .u8 N,.int .u8 F] rfl rfl ?b1 ?b2 ?b3 ?b4 ?b5 ?_)
 case b1 =>
  intro q u hq
  match q,hq with
  | 0,hq=>simp at hq;subst hq;simp [Addr.add]
  | 1,hq=>simp at hq;subst hq;simp [Addr.add]
  | 2,hq=>simp at hq;subst hq;simp [Addr.add]
 case b2=>intro u hu;simp at hu;rcases hu with rfl | rfl | rfl<;>rfl
 case b3=>decide
 case b4=>decide
 case b5=>simp;omega
 intro v2 w2 hown2 hgrow2 _
 have R2:=Own.snoc [2,UInt8.ofNat N.toNat,UInt8.ofNat F.toNat] _ (by show _=[Value.int .u8 2,.int .u8 ((UInt8.ofNat N.toNat).toNat:Int),.int .u8 ((UInt8.ofNat F.toNat).toNat:Int)];rw [←a6y (by omega) (by omega),←a6y hF1 (by omega)]) 3 rfl _ HO1.out hown2 hgrow2 cz
 have HO2:Hid _:=R2.1
 have HB2:Hid _:=R2.2
 have BX2:=HBX1.out.below R2.2 (Nat.le_refl _)
 have HBX2:Hid _:=BX2
 clear cN cW cB cL cK cF cO cS cLw cV cT cz
 obtain ⟨cN,cW,cB,cL,cK,cF,cO,cS,cLw,cV,cT,cz⟩:=BX2
 clear hown2 hgrow2 R2
 obtain ⟨pre,hpre⟩:∃ pre,pre=[]++[104,115]++[2,UInt8.ofNat N.toNat,UInt8.ofNat F.toNat]:=⟨_,rfl⟩
 have hpl:pre.length=5:=by rw [hpre];simp
 have HP:Hid (pre=[]++[104,115]++[2,UInt8.ofNat N.toNat,UInt8.ofNat F.toNat]):=hpre
 have HO6:Hid (Own w2 (w.heap.size+2) v2 pre):=by rw [hpre];exact HO2.out
 clear HO2 hpre
 have HPL:Hid (pre.length=5):=hpl
 clear hpl
 have HBall:Hid (Below (w.heap.size+2) ((w.alloc (.cells #[.int .i64 N,.int .i64 W,.int .i64 B,.int .i64 L] 26)).alloc (.cells #[.int .i64 2,.int .i64 F,.int .i64 O,.int .i64 S,.int .i64 Lw,.slice ad len cap,.string body] 45)) w2):=HB1.out.trans HB2.out
 clear HO1 HB1 HB2 HBX1
 have hlen8:(len:Int)≤8:=by omega
 have HL:Hid (vs.length=len):=HI.out.len
 go_wp2
 go_loopw [0,43] (fun u c wr=>∃ k:Nat,k≤len∧c=.int .i64 k∧Own wr (w.heap.size+2) u (pre++a03 (vs.take k))∧Below (w.heap.size+2) w2 wr) (fun _ c _=>len-(intOf c).toNat)
 case atStart=>exact ⟨0,Nat.zero_le _,rfl,by simpa [a03] using HO6.out,Below.refl _ _⟩
 case round =>
  obtain ⟨k,hk,rfl,hown,hbel⟩:=hrel
  have HO:Hid (Own wr (w.heap.size+2) _ (pre++a03 (vs.take k))):=hown
  have HB:Hid (Below (w.heap.size+2) w2 wr):=hbel
  have HBX:Hid _:=HBX2.out.below hbel (Nat.le_refl _)
  have BXr:=HBX.out
  clear hown hbel cN cW cB cL cK cF cO cS cLw cV cT cz
  obtain ⟨cN,cW,cB,cL,cK,cF,cO,cS,cLw,cV,cT,cz⟩:=BXr
  by_cases hlt:k<len
  ·obtain ⟨b,off,rfl,hbl,hcell⟩:=HI.out.cell k hlt
   obtain ⟨x,hx⟩:∃ x,x=vs.getD k 0:=⟨_,rfl⟩
   rw [←hx] at hcell
   have HX:Hid (x=vs.getD k 0):=hx
   clear hx
   have hxb:=au7 HV.out (by rw [HL.out];exact hlt) HX.out
   obtain ⟨hx0,hx1⟩:=hxb
   have hcr:wr.cell? ⟨b,off+k,none⟩=some (.int .i64 x):=by
    have e1:=(HBall.out.trans HB.out).cell (p:=⟨b,off+k,none⟩) (show b<w.heap.size+2 by omega)
    have e2:=HB0.out.cell (p:=⟨b,off+k,none⟩) hbl
    rw [e1,e2];exact hcell
   clear hcell
   go_wp2_with fail
   refine (a1h (w.heap.size+2) _ _ x 2 2 rfl wr HO.out cz hx0 (by omega) (by omega) (by have:=a0g (vs.take k);have h2:=List.length_take_le k vs;simp [HPL.out,this];omega)).mono ?_
   rintro e w6 ⟨v6,rfl,hown6,hb6⟩
   have HO7:Hid (Own w6 (w.heap.size+2) v6 (pre++a03 (vs.take (k+1)))):=by
    rw [a81 (by rw [HL.out];exact hlt) HX.out,←List.append_assoc];exact hown6
   have HB7:Hid _:=hb6
   clear hown6 hb6
   go_wp2
   go_roundw
   case rel=>exact ⟨k+1,by omega,by go_num,HO7.out,HB.out.trans HB7.out⟩
   case measure=>simp [intOf];omega
  ·have ho8:=HO.out
   rw [List.take_of_length_le (by rw [HL.out];omega)] at ho8
   have HO8:Hid _:=ho8
   clear HO ho8
   go_wp2
   go_ret
   refine ⟨⟨_,rfl,?_⟩,HB0.out.trans ((HBall.out.trans HB.out).mono (by omega))⟩
   have h9:=HO8.out
   rw [HP.out] at h9
   have e:a0a N 2 F O S Lw vs body.size=[]++[104,115]++[2,UInt8.ofNat N.toNat,UInt8.ofNat F.toNat]++a03 vs:=by
    simp [a0a]
   rw [e]
   exact Own.mono h9 (by omega)
theorem a5x {ops:Array Oper} {o:Oper} {a:Act} {w:World} {K:Act→World→Prop} {Q:Exit→Act→World→Prop} {E:Prop}
  (hg:o.guard=none) (sl x:Operand) (hop:o.op=Op.call { callee:=Callee.builtin Builtin.append,args:=#[sl,x],argTypes:=#[241,9] })
  (base:Nat) (v:Value) (l:List UInt8) (hs:a.eval sl=v) (hown:Own w base v l) (s:ByteArray) (hx:a.eval x=.string s)
  (hb1:l.length≤1000) (hb2:s.size≤1000) (hbase:base≤w.heap.size)
  (hK:∀ v' w',Own w' base v' (l++s.data.toList)→Below base w w'→K (a.put o.dst v') w') :
  if Region.wanted o (yielded ops a.tmps)=true then Oper.wp Tryz.prog o a w K Q else E:=by
 have hw:Region.wanted o (yielded ops a.tmps)=true:=by simp [Region.wanted,hg]
 rw [if_pos hw]
 obtain ⟨i0,hi,hz0,hz1,hz2⟩:=info_parts Tryz.infoByte
 obtain ⟨v',w',hrun,r1,r2,_⟩:=Lib.run_append_own_string (P:=Tryz.prog) w base 241 9 o.type 5 i0 Tryz.underlying241 Tryz.underlying9 hi hz0 hz1 hz2 v l.length (a3k l) hown s (by unfold maxLen;omega) (by omega) hbase
 have R:=Own.str s s.data.toList (by simp [txt]) hown r1 r2 hbase
 unfold Oper.wp
 simp [execOp,hop,resolve,invoke,builtin,hs,hx,hrun,Result.andThen]
 exact hK v' w' R.1 R.2
def a04 (N K F O S Lw:Int) (vs:List Int) (body:ByteArray):List UInt8:=
 a0a N K F O S Lw vs body.size++body.data.toList++num (Crc.sum (a0a N K F O S Lw vs body.size++body.data.toList)) 4
structure Fits (N W B L K F O S Lw:Int) (vs:List Int) (body:ByteArray):Prop where
 from0:0≤F
 from1:F<N
 len:(vs.length:Int)=N
 vec:∀ v∈vs,0≤v∧v≤L
 kind:(K=2∧O=0∧S=0∧Lw=0∧body.size=0)∨(K=1∧0≤O∧O<N∧1≤S∧S≤L∧0≤Lw∧Lw<S∧S-W≤Lw∧vs.getD O.toNat 0=S-1∧(body.size:Int)≤B)
theorem an8 {L K O S:Int} {vs:List Int} (h:a4e L K O S vs=none):∀ i,i<vs.length→vbad L K O S i (vs.getD i 0)=false:=by
 intro i hi
 unfold a4e at h
 rw [List.find?_eq_none] at h
 have:=h i (by simpa using hi)
 simpa using this
theorem ae2 {N L K O S:Int} {vs:List Int} (h:rVec N L K O S vs=none):(vs.length:Int)=N∧∀ i,i<vs.length→vbad L K O S i (vs.getD i 0)=false:=by
 unfold rVec at h
 split at h
 ·rename_i hl
  refine ⟨hl,an8 ?_⟩
  cases hv:a4e L K O S vs with
  | none=>rfl
  | some i=>rw [hv] at h;cases h
 ·cases h
theorem ap9 {L K O S:Int} {vs:List Int} (h:∀ i,i<vs.length→vbad L K O S i (vs.getD i 0)=false):∀ v∈vs,0≤v∧v≤L:=by
 intro v hv
 obtain ⟨i,hi,rfl⟩:=List.mem_iff_getElem.1 hv
 have:=of_decide_eq_false (h i hi)
 rw [List.getD_eq_getElem?_getD,List.getElem?_eq_getElem hi] at this
 simp only [Option.getD_some] at this
 omega
theorem a2m (b:ByteArray):b.toList.isEmpty=true↔b.size=0:=by
 rw [ByteArray.toList_eq,List.isEmpty_iff_length_eq_zero,Array.length_toList]
 exact Iff.rfl
theorem an0 {N W B L K F O S Lw:Int} {vs:List Int} {body:ByteArray} (h:a1w N W B L K F O S Lw vs body=none):Fits N W B L K F O S Lw vs body:=by
 unfold a1w at h
 cases hk:rKind K with
 | some x=>rw [hk] at h;cases h
 | none =>
  rw [hk] at h
  cases hf:rFrom N F with
  | some x=>rw [hf] at h;cases h
  | none =>
   rw [hf] at h
   have hF:0≤F∧F<N:=by
    by_cases c:0≤F∧F<N
    ·exact c
    ·unfold rFrom at hf;rw [if_neg c] at hf;cases hf
   have hK:K=1∨K=2:=by
    by_cases c:K=1∨K=2
    ·exact c
    ·unfold rKind at hk;rw [if_neg c] at hk;cases hk
   by_cases h2:K=2
   ·simp only [if_pos h2] at h
    unfold a4n at h
    by_cases c:O=0∧S=0∧Lw=0∧body.toList.isEmpty=true
    ·rw [if_pos c] at h
     obtain ⟨hl,hv⟩:=ae2 h
     exact ⟨hF.1,hF.2,hl,ap9 hv,Or.inl ⟨h2,c.1,c.2.1,c.2.2.1,(a2m body).1 c.2.2.2⟩⟩
    ·rw [if_neg c] at h;cases h
   ·simp only [if_neg h2] at h
    have h1:K=1:=by omega
    unfold rData at h
    by_cases c1:0≤O∧O<N
    ·rw [if_neg (by simpa using c1)] at h
     by_cases c2:S<1∨L<S
     ·rw [if_pos c2] at h;cases h
     ·rw [if_neg c2] at h
      by_cases c3:Lw<0∨S≤Lw∨Lw<S-W
      ·rw [if_pos c3] at h;cases h
      ·rw [if_neg c3] at h
       cases hv:rVec N L K O S vs with
       | some x=>rw [hv] at h;cases h
       | none =>
        rw [hv] at h
        obtain ⟨hl,hvv⟩:=ae2 hv
        by_cases c4:B<(body.size:Int)
        ·simp only [if_pos c4] at h;cases h
        ·have hO:=of_decide_eq_false (hvv O.toNat (by omega))
         exact ⟨hF.1,hF.2,hl,ap9 hvv,Or.inr ⟨h1,c1.1,c1.2,by omega,by omega,by omega,by omega,by omega,by omega,by omega⟩⟩
    ·rw [if_pos c1] at h;cases h
theorem a7u {L K O S:Int} {vs:List Int} (h:∀ v∈vs,0≤v∧v≤L) (hO:K=1→0≤O∧vs.getD O.toNat 0=S-1):∀ i,i<vs.length→vbad L K O S i (vs.getD i 0)=false:=by
 intro i hi
 apply decide_eq_false
 have hm:=h (vs.getD i 0) (by rw [List.getD_eq_getElem?_getD,List.getElem?_eq_getElem hi];exact List.getElem_mem hi)
 rintro (c | c | ⟨k1,e,ne⟩)
 ·omega
 ·omega
 ·obtain ⟨o0,o1⟩:=hO k1
  have:O.toNat=i:=by omega
  rw [this] at o1
  exact ne o1
theorem b37 {N W B L K F O S Lw:Int} {vs:List Int} {body:ByteArray} (h:Fits N W B L K F O S Lw vs body):a1w N W B L K F O S Lw vs body=none:=by
 unfold a1w
 have hf:rFrom N F=none:=if_pos ⟨h.from0,h.from1⟩
 rcases h.kind with ⟨k2,o,sq,lw,bd⟩ | ⟨k1,o0,o1,s1,s2,l0,l1,l2,hv,bd⟩
 ·have hk:rKind K=none:=if_pos (Or.inr k2)
  rw [hk,hf]
  simp only [if_pos k2]
  unfold a4n
  rw [if_pos ⟨o,sq,lw,(a2m body).2 bd⟩]
  exact a4g h.len (a7u h.vec (fun c=>by omega))
 ·have hk:rKind K=none:=if_pos (Or.inl k1)
  rw [hk,hf]
  simp only [if_neg (show ¬ K=2 by omega)]
  unfold rData
  rw [if_neg (fun c=>c ⟨o0,o1⟩),if_neg (by omega),if_neg (by omega),a4g h.len (a7u h.vec (fun _=>⟨o0,hv⟩))]
  simp only [if_neg (show ¬ B<(body.size:Int) by omega)]
def encR (N W B L K F O S Lw:Int) (vs:List Int) (body:ByteArray):List UInt8 × Int:=
 if okG N W B L then (if a1w N W B L K F O S Lw vs body=none then (a04 N K F O S Lw vs body,0) else ([],5)) else ([],1)
theorem a9c (N W B L K F O S Lw:Int) (ad:Option Addr) (len cap:Nat) (body:ByteArray) (vs:List Int) (w:World) (hi:Ints w ad len vs) (hG:okG N W B L=true) (hf:Fits N W B L K F O S Lw vs body) :
  Calls Tryz.prog 181 #[.slice none 0 0,.agg #[.int .i64 N,.int .i64 W,.int .i64 B,.int .i64 L],.agg #[.int .i64 K,.int .i64 F,.int .i64 O,.int .i64 S,.int .i64 Lw,.slice ad len cap,.string body]] w fun e w'=>(∃ v,e=.returned v∧Own w' w.heap.size v (a0a N K F O S Lw vs body.size))∧Below w.heap.size w w':=by
 obtain ⟨h1,h2,h3,h4,h5,h6,h7,h8⟩:=a0u.1 hG
 have hlen:=hf.len
 have hl:=hi.len
 have hv:∀ v∈vs,0≤v∧v≤65535:=fun v hv=>by have:=hf.vec v hv;omega
 have f0:=hf.from0
 have f1:=hf.from1
 rcases hf.kind with ⟨rfl,o,sq,lw,bd⟩ | ⟨rfl,o0,o1,s1,s2,l0,l1,l2,hv2,bd⟩
 ·exact a7t N W B L F O S Lw ad len cap body vs w hi h1 h2 f0 f1 (by omega) hv
 ·exact a9k N W B L F O S Lw ad len cap body vs w hi h1 h2 f0 f1 o0 o1 s1 (by omega) l0 l1 (by omega) (by omega) hv
theorem a8s {N W B L K F O S Lw:Int} {vs:List Int} {body:ByteArray} (hG:okG N W B L=true) (hf:Fits N W B L K F O S Lw vs body) (n:Nat):(a0a N K F O S Lw vs n).length≤27:=by
 obtain ⟨h1,h2,h3,h4,h5,h6,h7,h8⟩:=a0u.1 hG
 have hlen:=hf.len
 have hv:=a0g vs
 unfold a0a
 by_cases h:K=1
 ·simp only [if_pos h,List.length_append,List.length_cons,List.length_nil,a0j,hv];omega
 ·simp only [if_neg h,List.length_append,List.length_cons,List.length_nil,hv];omega
theorem ar1 {N W B L K F O S Lw:Int} {vs:List Int} {body:ByteArray} (hG:okG N W B L=true) (hf:Fits N W B L K F O S Lw vs body):body.size≤40:=by
 obtain ⟨h1,h2,h3,h4,h5,h6,h7,h8⟩:=a0u.1 hG
 rcases hf.kind with ⟨_,o,sq,lw,bd⟩ | ⟨_,o0,o1,s1,s2,l0,l1,l2,hv2,bd⟩
 ·omega
 ·omega
set_option maxHeartbeats 4000000 in
theorem a4y (a0 a1:Addr) (N W B L K F O S Lw:Int) (ad:Option Addr) (len cap:Nat) (body:ByteArray) (vs:List Int) (w:World) (hw:Sent w a0 a1) (hi:Ints w ad len vs)
  (hl:len≤maxLen) (hbd:body.size≤maxLen) :
  Calls Tryz.prog 139 #[.agg #[.int .i64 N,.int .i64 W,.int .i64 B,.int .i64 L],.agg #[.int .i64 K,.int .i64 F,.int .i64 O,.int .i64 S,.int .i64 Lw,.slice ad len cap,.string body]] w fun e w'=>(∃ v,e=.returned (.tuple #[.string (txt (encR N W B L K F O S Lw vs body).1),v])∧IsErr a0 a1 v (encR N W B L K F O S Lw vs body).2)∧Below w.heap.size w w':=by
 have HW:Hid (Sent w a0 a1):=hw
 have HI:Hid (Ints w ad len vs):=hi
 have HLm:Hid (len≤maxLen):=hl
 have HBd:Hid (body.size≤maxLen):=hbd
 clear hw hi hl hbd
 have HBX0:Hid _:=a0x w N W B L K F O S Lw ad len cap body 26 45
 go_enter Tryz.func139,Tryz.ntmps139
 go_wp2_with fail
 refine (a4z a0 a1 N W B L _ ((HW.out.alloc _).alloc _)).mono ?_
 rintro e w1 ⟨⟨v,rfl,hv,hv0⟩,hb⟩
 have HB:Hid _:=hb
 have BX1:=HBX0.out.below hb (by simp)
 have HBX1:Hid _:=BX1
 obtain ⟨cN,cW,cB,cL,cK,cF,cO,cS,cLw,cV,cT,cz⟩:=BX1
 clear hb
 by_cases hG:okG N W B L=true
 ·obtain rfl:=hv0 hG
  clear hv hv0
  go_wp2_with fail
  refine (a9u a0 a1 N W B L K F O S Lw ad len cap body vs _ (((HW.out.alloc _).alloc _).below HB.out) (((HI.out.alloc _).alloc _).below HB.out) hG HLm.out HBd.out).mono ?_
  rintro e w2 ⟨⟨v,rfl,hv⟩,hb2⟩
  have HB2:Hid _:=hb2
  have BX2:=HBX1.out.below hb2 cz
  have HBX2:Hid _:=BX2
  clear cN cW cB cL cK cF cO cS cLw cV cT cz
  obtain ⟨cN,cW,cB,cL,cK,cF,cO,cS,cLw,cV,cT,cz⟩:=BX2
  clear hb2
  cases hr:a1w N W B L K F O S Lw vs body with
  | some x =>
   have HE:Hid (encR N W B L K F O S Lw vs body=([],5)):=by show encR N W B L K F O S Lw vs body=_;unfold encR;rw [if_pos hG,if_neg (by rw [hr];simp)]
   rw [hr] at hv
   have HV:Hid (IsF a1 v (some x)):=hv
   obtain ⟨t,y,rfl⟩:=hv.a1b.2 x rfl
   clear hv hr hG
   go_wp2
   go_ret2
   rw [HE.out]
   exact ⟨⟨_,rfl,HV.out.err⟩,bthen (bthen (a09 _ _ _) HB.out) HB2.out⟩
  | none =>
   have HE:Hid (encR N W B L K F O S Lw vs body=(a04 N K F O S Lw vs body,0)):=by show encR N W B L K F O S Lw vs body=_;unfold encR;rw [if_pos hG,if_pos hr]
   rw [hr] at hv
   obtain rfl:=hv.a1b.1 rfl
   have HF:Hid (Fits N W B L K F O S Lw vs body):=an0 hr
   clear hv hr
   have HG:Hid (okG N W B L=true):=hG
   have hbl:=ar1 hG HF.out
   clear hG
   have HI2:Hid (Ints w2.drew ad len vs):=((((HI.out.alloc _).alloc _).below HB.out).below HB2.out).drew
   have HBX2d:Hid _:=HBX2.out.below ((Below.refl w2.heap.size w2).drew) cz
   go_wp2
   go_region_law (first
    | (refine a5x rfl (.tmp 22) (.tmp 24) rfl w2.heap.size v3 _ (by simp [Act.eval]) HO3.out body (by simp [Act.eval]) (Nat.le_trans (a8s HG.out HF.out _) (by decide)) (by omega) hz3 ?_;intro v4 w4 ho4 hb4;have HO4:Hid _:=ho4;have HB4:Hid _:=hb4;clear ho4 hb4)
    | (go_simp;refine (a9c N W B L K F O S Lw ad len cap body vs _ HI2.out HG.out HF.out).mono ?_;rintro e w3 ⟨⟨v3,rfl,ho3⟩,hb3⟩;have HO3:Hid _:=ho3;have HB3:Hid _:=hb3;have hz3:=hb3.size;have ct3:=(HBX2d.out.below hb3 cz).t;clear ho3 hb3))
   all_goals
    have hcv:=Own.string HO4.out
    have hln:(a0a N K F O S Lw vs body.size++body.data.toList).length≤67:=by
     have:=a8s HG.out HF.out body.size
     simp only [List.length_append,Array.length_toList]
     show _+body.size≤67
     omega
    have HLN:Hid _:=hln
    clear hln
    have hz4:w2.heap.size≤w4.heap.size:=Nat.le_trans hz3 HB4.out.size
    have HSum:Hid (Crc.sum (txt (a0a N K F O S Lw vs body.size++body.data.toList)).data.toList=Crc.sum (a0a N K F O S Lw vs body.size++body.data.toList)):=by show _=_;rw [a6b]
    go_wp2_with fail
    refine (a5h _ _ (by rw [a2d];exact Nat.le_trans HLN.out (by decide))).mono ?_
    rintro e w5 ⟨rfl,rfl⟩
    rw [HSum.out]
    go_wp2_with fail
    refine (a1h w2.heap.size v4 _ _ 4 4 rfl _ HO4.out hz4 (by omega) (by have:=Crc.sum_lt (a0a N K F O S Lw vs body.size++body.data.toList);omega) (by omega) (Nat.le_trans HLN.out (by decide))).mono ?_
    rintro e w6 ⟨v6,rfl,ho6,hb6⟩
    rw [Int.toNat_natCast] at ho6
    have hcv6:=Own.string ho6
    have HB6:Hid _:=hb6
    clear ho6 hb6 hcv
    go_wp2
    go_ret2
    rw [HE.out]
    unfold a04
    simp only [List.append_assoc]
    refine ⟨⟨_,rfl,⟨Or.inl ⟨rfl,rfl⟩⟩⟩,bthen (bthen (a09 _ _ _) HB.out) (bthen HB2.out ?_)⟩
    exact ((Below.refl w2.heap.size w2).drew).trans (HB3.out.trans (HB4.out.trans HB6.out))
 ·have HE:Hid (encR N W B L K F O S Lw vs body=([],1)):=by show encR N W B L K F O S Lw vs body=_;unfold encR;rw [if_neg hG]
  rw [if_neg hG] at hv
  have HV:Hid (IsErr a0 a1 v 1):=hv
  have hne:∃ t y,v=.iface t y:=by
   rcases hv.how with ⟨_,h⟩ | ⟨s,rfl,_⟩ | ⟨s,rfl,_⟩ | ⟨p,s,rfl,_⟩
   ·omega
   ·exact ⟨_,_,rfl⟩
   ·exact ⟨_,_,rfl⟩
   ·exact ⟨_,_,rfl⟩
  obtain ⟨t,y,rfl⟩:=hne
  clear hv hv0 hG
  go_wp2
  go_ret2
  rw [HE.out]
  exact ⟨⟨_,rfl,HV.out⟩,bthen (a09 _ _ _) HB.out⟩
def textOf (n:Nat) (W B L:Int) (f:Fr):ByteArray:=txt (encR n W B L f.kind f.frm f.org f.seq f.low f.vec f.body).1
set_option maxHeartbeats 1000000 in
theorem ae9 (a0 a1:Addr) (b n:Nat) (W B L:Int) (p gv:Nat) (f:Fr) (w:World) (hw:Sent w a0 a1) (hb:NB w b n W B L p gv) (hi:Ints w f.ad n f.vec) (hn:n≤8) (hbd:f.body.size≤maxLen) :
  Calls Tryz.prog 153 #[.pointer (some ⟨b,0,none⟩),Fr.agg n f] w fun e w'=>e=.returned (.string (textOf n W B L f))∧Below w.heap.size w w':=by
 have HE:Hid (∀ x,Below w.heap.size w x→Calls Tryz.prog 139 #[.agg #[.int .i64 n,.int .i64 W,.int .i64 B,.int .i64 L],.agg #[.int .i64 f.kind,.int .i64 f.frm,.int .i64 f.org,.int .i64 f.seq,.int .i64 f.low,.slice f.ad n f.cap,.string f.body]] x fun e w'=>(∃ v,e=.returned (.tuple #[.string (textOf n W B L f),v]))∧Below x.heap.size x w'):=fun x hx=>(a4y a0 a1 n W B L f.kind f.frm f.org f.seq f.low f.ad n f.cap f.body f.vec x (hw.below hx) (hi.below hx) (by unfold maxLen;omega) hbd).mono (by
  rintro e w' ⟨⟨v,rfl,_⟩,h⟩
  exact ⟨⟨v,rfl⟩,h⟩)
 have hal:=a00 w (.cells #[.int .i64 f.kind,.int .i64 f.frm,.int .i64 f.org,.int .i64 f.seq,.int .i64 f.low,.slice f.ad n f.cap,.string f.body] 45)
 have hsv:=a05 w (.int .i64 f.kind) (.int .i64 f.frm) (.int .i64 f.org) (.int .i64 f.seq) (.int .i64 f.low) (.slice f.ad n f.cap) (.string f.body) 45
 have hb':=hb.alike (E:=fun _=>False) (Alike.of_below hal _) (fun h=>h)
 have HAL:Hid _:=hal
 obtain ⟨c0,c1,c2,c3,c4,c5,_⟩:=hb'
 clear hw hb hi hal
 generalize textOf n W B L f=tx at *
 unfold Fr.agg
 go_enter Tryz.func153,Tryz.ntmps153
 go_wp2_with fail
 generalize w.alloc (.cells #[.int .i64 f.kind,.int .i64 f.frm,.int .i64 f.org,.int .i64 f.seq,.int .i64 f.low,.slice f.ad n f.cap,.string f.body] 45)=X at *
 obtain ⟨s0,s1,s2,s3,s4,s5,s6,sz⟩:=hsv
 have hbX:b<X.heap.size:=lt_of_cell c0
 go_region_held3 (fun x=>x.cell? ⟨b,0,none⟩=some (.int .i64 (n:Int))∧x.cell? ⟨b,1,none⟩=some (.int .i64 W)∧x.cell? ⟨b,2,none⟩=some (.int .i64 B)∧x.cell? ⟨b,3,none⟩=some (.int .i64 L)∧x.cell? ⟨w.heap.size,0,none⟩=some (.int .i64 f.kind)∧x.cell? ⟨w.heap.size,1,none⟩=some (.int .i64 f.frm)∧x.cell? ⟨w.heap.size,2,none⟩=some (.int .i64 f.org)∧x.cell? ⟨w.heap.size,3,none⟩=some (.int .i64 f.seq)∧x.cell? ⟨w.heap.size,4,none⟩=some (.int .i64 f.low)∧x.cell? ⟨w.heap.size,5,none⟩=some (.slice f.ad n f.cap)∧x.cell? ⟨w.heap.size,6,none⟩=some (.string f.body))
  (first|(exact ⟨c0,c1,c2,c3,s0,s1,s2,s3,s4,s5,s6⟩)|(exact ⟨(HB1.out.cell (p:=⟨b,0,none⟩) hbX).trans c0,(HB1.out.cell (p:=⟨b,1,none⟩) hbX).trans c1,(HB1.out.cell (p:=⟨b,2,none⟩) hbX).trans c2,(HB1.out.cell (p:=⟨b,3,none⟩) hbX).trans c3,(HB1.out.cell (p:=⟨w.heap.size,0,none⟩) sz).trans s0,(HB1.out.cell (p:=⟨w.heap.size,1,none⟩) sz).trans s1,(HB1.out.cell (p:=⟨w.heap.size,2,none⟩) sz).trans s2,(HB1.out.cell (p:=⟨w.heap.size,3,none⟩) sz).trans s3,(HB1.out.cell (p:=⟨w.heap.size,4,none⟩) sz).trans s4,(HB1.out.cell (p:=⟨w.heap.size,5,none⟩) sz).trans s5,(HB1.out.cell (p:=⟨w.heap.size,6,none⟩) sz).trans s6⟩) | go_keep)
  (first|(go_at_call 139;refine (HE.out _ HAL.out.drew).mono ?_;rintro e w1 ⟨⟨v,rfl⟩,hb1⟩;have HB1:Hid (Below X.heap.size X w1):=(Below.refl _ _).drew.trans hb1;clear hb1))
 go_wp2_with fail
 go_ret
 exact ⟨rfl,bthen HAL.out HB1.out⟩
structure Pk where
 to:Int
 text:ByteArray
def Pk.cells (x:Pk):List Value:=[.int .i64 x.to,.string x.text]
def prow (ps:List Pk):List Value:=ps.flatMap Pk.cells
theorem a0q (a b:List Pk):prow (a++b)=prow a++prow b:=by simp [prow]
structure Pks (w:World) (base:Nat) (v:Value) (ps:List Pk):Prop where
 own:w.ownsRow base 109 2 v ps.length (prow ps)
def passL (tx:ByteArray) (p o fr:Int) (k:Nat):List Pk:=((List.range k).filter (fun (q:Nat)=>decide ((q:Int)≠p∧(q:Int)≠o∧(q:Int)≠fr))).map (fun (q:Nat)=>⟨(q:Int),tx⟩)
theorem Pks.block {w:World} {base:Nat} {v:Value} {ps:List Pk} (h:Pks w base v ps):∀ k,v.ownBlock=some k→base≤k:=by
 intro k hk
 rcases h.own.2 with ⟨rfl,_⟩ | ⟨g,cap,cur,rfl,hg,_⟩
 ·cases hk
 ·cases hk
  exact hg
theorem Pks.mono {w:World} {b b':Nat} {v:Value} {ps:List Pk} (h:Pks w b v ps) (hb:b'≤b):Pks w b' v ps:=by
 refine ⟨h.own.1,?_⟩
 rcases h.own.2 with h2 | ⟨g,cap,cur,hv,hg,r⟩
 ·exact Or.inl h2
 ·exact Or.inr ⟨g,cap,cur,hv,Nat.le_trans hb hg,r⟩
theorem a01 {w:World} {base:Nat} {e:TypeId} {size:Nat} {v:Value} {n:Nat} {xs:List Value} (h:w.ownsRow base e size v n xs):∃ a c,v=.slice a n c:=by
 rcases h.2 with ⟨rfl,rfl⟩ | ⟨g,cap,cur,rfl,_⟩
 ·exact ⟨_,_,rfl⟩
 ·exact ⟨_,_,rfl⟩
theorem Pks.nil (w:World) (base:Nat):Pks w base (.slice none 0 0) []:=⟨World.ownsRow_nil _ _ _ _⟩
theorem av6 {tx:ByteArray} {p o fr:Int} {k:Nat} (h:¬ ((k:Int)≠p∧(k:Int)≠o∧(k:Int)≠fr)):passL tx p o fr (k+1)=passL tx p o fr k:=by
 unfold passL
 rw [List.range_succ,List.filter_append]
 simp only [List.filter_cons,List.filter_nil,decide_eq_false h]
 simp
theorem aj7 {tx:ByteArray} {p o fr:Int} {k:Nat} (h:(k:Int)≠p∧(k:Int)≠o∧(k:Int)≠fr):passL tx p o fr (k+1)=passL tx p o fr k++[⟨(k:Int),tx⟩]:=by
 unfold passL
 rw [List.range_succ,List.filter_append]
 simp only [List.filter_cons,List.filter_nil,decide_eq_true h]
 simp
theorem a3j (tx:ByteArray) (p o fr:Int) (k:Nat):(passL tx p o fr k).length≤k:=by
 unfold passL
 rw [List.length_map]
 exact Nat.le_trans (List.length_filter_le _ _) (by simp)
theorem Tryz.a13:(Tryz.prog.info? 109).map (fun i=>(i.zero,i.size,i.bytes))=some (some (.agg #[.int .i64 0,.string ⟨#[]⟩]),2,24):=by kernel_rfl
set_option maxHeartbeats 1000000 in
theorem a9z (a0 a1:Addr) (b n:Nat) (W B L:Int) (p gv:Nat) (f:Fr) (fr:Int) (w:World) (hw:Sent w a0 a1) (hb:NB w b n W B L p gv) (hi:Ints w f.ad n f.vec) (hn:n≤8) (hbd:f.body.size≤maxLen) :
  Calls Tryz.prog 151 #[.pointer (some ⟨b,0,none⟩),Fr.agg n f,.int .i64 fr] w fun e w'=>(∃ v,e=.returned v∧Pks w' w.heap.size v (passL (textOf n W B L f) p f.org fr n))∧Below w.heap.size w w':=by
 have HT:Hid (∀ x,Below w.heap.size w x→Calls Tryz.prog 153 #[.pointer (some ⟨b,0,none⟩),.agg #[.int .i64 f.kind,.int .i64 f.frm,.int .i64 f.org,.int .i64 f.seq,.int .i64 f.low,.slice f.ad n f.cap,.string f.body]] x fun e w'=>e=.returned (.string (textOf n W B L f))∧Below x.heap.size x w'):=fun x hx=>ae9 a0 a1 b n W B L p gv f x (hw.below hx) (hb.alike (E:=fun _=>False) (Alike.of_below hx _) (fun h=>h)) (hi.below hx) hn hbd
 have HC:Hid (∀ x,Below w.heap.size w x→x.cell? ⟨b,0,none⟩=some (.int .i64 (n:Int))∧x.cell? ⟨b,4,none⟩=some (.int .i64 (p:Int))):=fun x hx=>by
  have h:=hb.alike (E:=fun _=>False) (Alike.of_below hx _) (fun h=>h)
  exact ⟨h.c0,h.c4⟩
 have hal:=a00 w (.cells #[.int .i64 f.kind,.int .i64 f.frm,.int .i64 f.org,.int .i64 f.seq,.int .i64 f.low,.slice f.ad n f.cap,.string f.body] 45)
 have hsv:=a05 w (.int .i64 f.kind) (.int .i64 f.frm) (.int .i64 f.org) (.int .i64 f.seq) (.int .i64 f.low) (.slice f.ad n f.cap) (.string f.body) 45
 have HAL:Hid _:=hal
 have HSV:Hid _:=hsv
 clear hw hb hi hal
 generalize textOf n W B L f=tx at *
 unfold Fr.agg
 go_enter Tryz.func151,Tryz.ntmps151
 go_wp2_with fail
 generalize w.alloc (.cells #[.int .i64 f.kind,.int .i64 f.frm,.int .i64 f.org,.int .i64 f.seq,.int .i64 f.low,.slice f.ad n f.cap,.string f.body] 45)=X at *
 obtain ⟨s0,s1,s2,s3,s4,s5,s6,sz⟩:=hsv
 go_wp2_with fail
 refine (HT.out X HAL.out).mono ?_
 rintro e w1 ⟨rfl,hb1⟩
 have HB1:Hid (Below w.heap.size w w1):=bthen HAL.out hb1
 have z1:w.heap.size<w1.heap.size:=Nat.lt_of_lt_of_le sz hb1.size
 have HS2:Hid (w1.cell? ⟨w.heap.size,2,none⟩=some (.int .i64 f.org)):=(hb1.cell (p:=⟨w.heap.size,2,none⟩) sz).trans s2
 clear s0 s1 s2 s3 s4 s5 s6 hb1 HT
 obtain ⟨c0,c4⟩:=HC.out w1 HB1.out
 go_wp2_with fail
 have HN:Hid (Pks w1 w1.heap.size (.slice none 0 0) (passL tx p f.org fr 0)):=Pks.nil _ _
 go_loopw [8,18] (fun pv c wr=>∃ k:Nat,k≤n∧c=.int .i64 k∧Pks wr w1.heap.size pv (passL tx p f.org fr k)∧Below w1.heap.size w1 wr) (fun _ c _=>n-(intOf c).toNat)
 case atStart=>exact ⟨0,Nat.zero_le _,rfl,HN.out,Below.refl _ _⟩
 case round =>
  obtain ⟨k,hkn,rfl,hps,hbel⟩:=hrel
  have HPS:Hid _:=hps
  have HBel:Hid _:=hbel
  clear hps hbel c0 c4
  by_cases hlt:k<n
  ·have hki:(k:Int)<(n:Int):=by omega
   have HW:Hid (Below w.heap.size w wr):=bthen HB1.out HBel.out
   obtain ⟨c0,c4⟩:=HC.out wr HW.out
   have s2:=(HBel.out.cell (p:=⟨w.heap.size,2,none⟩) z1).trans HS2.out
   have hzr:=HBel.out.size
   by_cases hyes:(k:Int)≠p∧(k:Int)≠f.org∧(k:Int)≠fr
   ·obtain ⟨y1,y2,y3⟩:=hyes
    have HPL:Hid _:=aj7 (tx:=tx) (k:=k) ⟨y1,y2,y3⟩
    have HLn:Hid _:=a3j tx p f.org fr k
    obtain ⟨i1,hj,hy0,hy1,hy2⟩:=info_parts Tryz.a13
    obtain ⟨av,cv,hshape⟩:=a01 HPS.out.own
    subst hshape
    have b1:((k:Int) != p)=true:=by simp [y1]
    have b2:((k:Int) != f.org)=true:=by simp [y2]
    have b3:((k:Int) != fr)=true:=by simp [y3]
    go_wp2_with (at_builtin;refine wpList_append_own _ rfl (.tmp 38) (.tmp 42) 54 rfl w1.heap.size 109 i1 _ 2 24 Tryz.underlying54 hj hy0 hy1 hy2 rfl (by decide) _ _ _ rfl (World.ownsRow.alloc HPS.out.own _) ⟨wr.heap.size,0,none⟩ 1 1 [.int .i64 k,.string tx] rfl rfl ?c1 ?c2 (by have:=HLn.out;unfold maxLen;omega) (by have:=HLn.out;omega) (by simp;omega) ?_)
    case c1 =>
     intro q u hq
     match q,hq with
     | 0,hq=>simp at hq;subst hq;simp [Addr.add]
     | 1,hq=>simp at hq;subst hq;simp [Addr.add]
    case c2 =>
     intro u hu
     simp at hu
     rcases hu with rfl | rfl<;>rfl
    intro v4 w4 hown4 hgrow4 _
    have HG4:Hid (Pks w4 w1.heap.size v4 (passL tx p f.org fr (k+1))):=by
     refine ⟨?_⟩
     rw [HPL.out,a0q,List.length_append]
     exact hown4
    have HB4:Hid (Below w1.heap.size w1 w4):=(HBel.out.alloc hzr _).grown hgrow4 (by simp;omega) HPS.out.block
    obtain ⟨a4,c4',hg4⟩:=a01 hown4
    subst hg4
    clear hown4 hgrow4
    go_wp2_with fail
    go_roundw
    case rel=>exact ⟨k+1,by omega,by go_num,HG4.out,HB4.out⟩
    case measure=>simp [intOf];omega
   ·have HPL:Hid _:=av6 (tx:=tx) (k:=k) hyes
    obtain ⟨av,cv,hshape⟩:=a01 HPS.out.own
    subst hshape
    by_cases y1:(k:Int)=p
    ·have b1:((k:Int) != p)=false:=by simp [y1]
     clear hyes y1
     go_wp2_with fail
     go_roundw
     case rel=>exact ⟨k+1,by omega,by go_num,by rw [HPL.out];exact HPS.out,HBel.out⟩
     case measure=>simp [intOf];omega
    ·have b1:((k:Int) != p)=true:=by simp [y1]
     by_cases y2:(k:Int)=f.org
     ·have b2:((k:Int) != f.org)=false:=by simp [y2]
      clear hyes y2
      go_wp2_with fail
      go_roundw
      case rel=>exact ⟨k+1,by omega,by go_num,by rw [HPL.out];exact HPS.out,HBel.out⟩
      case measure=>simp [intOf];omega
     ·have b2:((k:Int) != f.org)=true:=by simp [y2]
      have y3:(k:Int)=fr:=Decidable.byContradiction fun h=>hyes ⟨y1,y2,h⟩
      have b3:((k:Int) != fr)=false:=by simp [y3]
      clear hyes y3
      go_wp2_with fail
      go_roundw
      case rel=>exact ⟨k+1,by omega,by go_num,by rw [HPL.out];exact HPS.out,HBel.out⟩
      case measure=>simp [intOf];omega
  ·have hkn':k=n:=by omega
   subst hkn'
   obtain ⟨av,cv,hshape⟩:=a01 HPS.out.own
   subst hshape
   go_wp2_with fail
   go_ret
   exact ⟨⟨_,rfl,HPS.out.mono (by omega)⟩,bthen HB1.out HBel.out⟩
theorem a1u (ps:List Pk):(prow ps).length=2 * ps.length:=by
 induction ps with
 | nil=>rfl
 | cons x ps ih =>
  show (Pk.cells x++prow ps).length=_
  rw [List.length_append,ih]
  simp [Pk.cells]
  omega
theorem at0 (ps:List Pk):∀ u∈prow ps,u.oneCell'=true:=fun u hu=>by
 obtain ⟨x,_,hx⟩:=List.mem_flatMap.1 hu
 simp [Pk.cells] at hx
 rcases hx with rfl | rfl<;>rfl
theorem b2f (ps:List Pk) (i:Nat):prow (ps.take i)=(prow ps).take (i * 2):=by
 rcases Nat.lt_or_ge ps.length i with h | h
 ·rw [List.take_of_length_le (by omega),List.take_of_length_le (by rw [a1u];omega)]
 ·conv=>rhs;rw [←List.take_append_drop i ps,a0q]
  rw [List.take_left' (by rw [a1u,List.length_take];omega)]
theorem b1p (ps:List Pk) (i:Nat):prow (ps.drop i)=(prow ps).drop (i * 2):=by
 rcases Nat.lt_or_ge ps.length i with h | h
 ·rw [List.drop_eq_nil_of_le (by omega),List.drop_eq_nil_of_le (by rw [a1u];omega)]
  rfl
 ·conv=>rhs;rw [←List.take_append_drop i ps,a0q]
  rw [List.drop_left' (by rw [a1u,List.length_take];omega)]
theorem a9a {P:Program} {ops:Array Oper} {o:Oper} {a:Act} {w:World} {K:Act→World→Prop} {Q:Exit→Act→World→Prop} {E:Prop}
  (hg:o.guard=none) (s x:Operand) (t:TypeId) (hop:o.op=Op.call { callee:=Callee.builtin Builtin.append,args:=#[s,x],argTypes:=#[t,t] })
  (e:TypeId) (i:TypeInfo) (size:Nat) (h1:P.underlying t=some (.slice e)) (h2:P.info? e=some i) (h4:i.size=size)
  (b n cap:Nat) (cur:Array Value) (hb:w.heap[b]?=some (.cells cur e (0,0))) (hs:a.eval s=.slice (some ⟨b,0,none⟩) n cap)
  (ad:Addr) (m c:Nat) (news:List Value) (hx:a.eval x=.slice (some ad) m c) (hn:news.length=m * size) (hc:∀ j u,news[j]?=some u→w.cell? (ad.add j)=some u) (h1c:∀ u∈news,u.oneCell'=true)
  (hroom:n+m≤cap) (hfit:n * size+news.length≤cur.size)
  (R:Array Value) (hR:R=(cur.toList.take (n * size)++news++cur.toList.drop (n * size+news.length)).toArray) (hK:K (a.put o.dst (.slice (some ⟨b,0,none⟩) (n+m) cap)) (w.setRow b R)) :
  if Region.wanted o (yielded ops a.tmps)=true then Oper.wp P o a w K Q else E:=by
 have hw:Region.wanted o (yielded ops a.tmps)=true:=by simp [Region.wanted,hg]
 rw [if_pos hw]
 subst h4
 have hrun:=run_append_room (P:=P) w t o.type e i h1 h2 b n cap cur hb ad m c news hn hc h1c hroom hfit
 rw [←hR] at hrun
 unfold Oper.wp
 simp [execOp,hop,resolve,invoke,builtin,hs,hx,hrun,Result.andThen]
 exact hK
theorem b0k (w:World) (g i cap:Nat) (cur:Array Value) (hh:w.heap[g]?=some (.cells cur 109 (0,0))) (hcs:cur.size=cap * 2) (hi:i<cap) (ty:TypeId) (c:Nat) :
  ∃ w',(Builtin.clear_ #[54] ty #[.slice (some ⟨g,i * 2,none⟩) 1 c]).run Tryz.prog w=.ok (.tuple #[]) w'∧w'.heap[g]?=some (.cells (cur.toList.take (i * 2)++[Value.int .i64 0,Value.string ⟨#[]⟩]++cur.toList.drop (i * 2+2)).toArray 109 (0,0))∧Alike w w' (fun k=>k=g):=by
 obtain ⟨q,hq,hq0,hq2,_⟩:=info_parts Tryz.a13
 have hst:=run_storeCells_at Tryz.prog g (i * 2) 109 [.int .i64 0,.string ⟨#[]⟩] 0 cur w hh (by simp;omega) (by
  intro v hv
  simp at hv
  rcases hv with rfl | rfl<;>rfl)
 refine ⟨w.setRow g (cur.toList.take (i * 2)++[Value.int .i64 0,Value.string ⟨#[]⟩]++cur.toList.drop (i * 2+2)).toArray,?_,setRow_heap _ _ _ _ _ _ hh,⟨by simp,fun k _ hk=>setRow_other _ _ _ _ hk,rfl,rfl,rfl⟩⟩
 have hz:(Builtin.zeroCells (Value.agg #[.int .i64 0,.string ⟨#[]⟩]).cells 1).toList=[.int .i64 0,.string ⟨#[]⟩]:=by
  apply List.ext_getElem
  ·simp [Builtin.zeroCells,Value.cells]
  ·intro j h1 h2
   have:j=0∨j=1:=by simp at h2;omega
   rcases this with rfl | rfl<;>simp [Builtin.zeroCells,Value.cells]
 simp only [Nat.add_zero,List.length_cons,List.length_nil] at hst
 simp [Builtin.clear_,run_underlying Tryz.underlying54,zeroValue,typeInfo,hq,hq0,hz,hst]
set_option maxHeartbeats 1000000 in
theorem ay0 (g cap k:Nat) (ps:List Pk) (w:World) (h:w.ownsRow 0 109 2 (.slice (some ⟨g,0,none⟩) ps.length cap) ps.length (prow ps)) (hk:k<ps.length) :
  Calls Tryz.prog 179 #[.slice (some ⟨g,0,none⟩) ps.length cap,.int .i64 k,.int .i64 ((k:Int)+1)] w fun e w'=>e=.returned (.slice (some ⟨g,0,none⟩) (ps.length-1) cap)∧w'.ownsRow 0 109 2 (.slice (some ⟨g,0,none⟩) (ps.length-1) cap) (ps.length-1) (prow (ps.eraseIdx k))∧Alike w w' (fun j=>j=g):=by
 rcases h.2 with ⟨he,_⟩ | ⟨g',cap',cur,he,_,hh,hnc,hcm,hcs,htk⟩
 ·cases he
 ·cases he
  have hl:=h.1
  clear h
  obtain ⟨i0,hi,hz0,hz1,hz2⟩:=info_parts Tryz.a13
  obtain ⟨n,hn⟩:∃ n,n=ps.length:=⟨_,rfl⟩
  have hdl:(prow (ps.drop (k+1))).length=(n-(k+1)) * 2:=by rw [a1u,List.length_drop,←hn];omega
  obtain ⟨A,hA,hsrc⟩:∃ A:Addr,(if cap=k+1 then some (⟨g,0,none⟩:Addr) else some ⟨g,(k+1) * 2,none⟩)=some A∧Hid (∀ t u,(prow (ps.drop (k+1)))[t]?=some u→w.drew.cell? (A.add t)=some u):=by
   by_cases h:cap=k+1
   ·refine ⟨⟨g,0,none⟩,by simp [h],fun t u hu=>?_⟩
    rw [List.eq_nil_of_length_eq_zero (l:=prow (ps.drop (k+1))) (by rw [hdl];omega)] at hu
    simp at hu
   ·refine ⟨⟨g,(k+1) * 2,none⟩,by simp [h],fun t u hu=>?_⟩
    rw [Addr.add_lit]
    show w.cell? _=_
    rw [cell_of_row w g _ cur _ (0,0) hh]
    rw [b1p,←htk,List.getElem?_drop,List.getElem?_take] at hu
    split at hu
    ·rw [←Array.getElem?_toList]
     exact hu
    ·cases hu
  have s2:Hid _:=at0 (ps.drop (k+1))
  have s1:Hid _:=hdl
  have HCur:Hid (w.drew.heap[g]?=some (.cells cur 109 (0,0))):=hh
  rw [←hn] at hk hnc htk hl ⊢
  have hkc:k≤cap:=by omega
  have hkc1:k+1≤cap:=by omega
  have hki:(k:Int)<(n:Int):=by omega
  have hk0:0≤(k:Int)+1:=by omega
  have hk1:(k:Int)+1≤(n:Int):=by omega
  have HTK:Hid _:=htk
  have HHN:Hid _:=hn
  clear hh htk hl hdl hn
  go_enter Tryz.func179,Tryz.ntmps179
  go_wp2_with fail
  obtain ⟨R,hR⟩:∃ R,R=(cur.toList.take (k * 2)++prow (ps.drop (k+1))++cur.toList.drop (k * 2+(prow (ps.drop (k+1))).length)).toArray:=⟨_,rfl⟩
  have HR:Hid _:=hR
  have hk2:k * 2+(prow (ps.drop (k+1))).length=(n-1) * 2:=by rw [s1.out];omega
  have hRs:R.size=cap * 2:=by
   rw [hR,hk2]
   simp only [List.size_toArray,List.length_append,List.length_take,List.length_drop,Array.length_toList,s1.out]
   omega
  have hRh:(w.drew.setRow g R).heap[g]?=some (.cells R 109 (0,0)):=setRow_heap _ _ _ _ _ _ HCur.out
  have hcl:∃ w2,(Builtin.clear_ #[54] 0 #[.slice (some ⟨g,(k+(n-(k+1))) * 2,none⟩) (n-(k+(n-(k+1)))) (cap-(k+(n-(k+1))))]).run Tryz.prog (w.drew.setRow g R)=.ok (.tuple #[]) w2∧w2.heap[g]?=some (.cells (R.toList.take ((k+(n-(k+1))) * 2)++[Value.int .i64 0,Value.string ⟨#[]⟩]++R.toList.drop ((k+(n-(k+1))) * 2+2)).toArray 109 (0,0))∧Alike (w.drew.setRow g R) w2 (fun k=>k=g):=by
   rw [show n-(k+(n-(k+1)))=1 by omega]
   exact b0k (w.drew.setRow g R) g (k+(n-(k+1))) cap R hRh hRs (by omega) 0 _
  obtain ⟨w2,hcl,hw2,ha2⟩:=hcl
  have HW2:Hid _:=hw2
  have HA2:Hid _:=ha2
  have HRs:Hid _:=hRs
  clear hR hk2 hRs hRh hw2 ha2
  go_region_law (refine a9a rfl (.tmp 22) (.tmp 25) 54 rfl 109 i0 2 Tryz.underlying54 hi hz1 g k cap cur HCur.out (by simp [Act.eval,Act.put]) A (n-(k+1)) (cap-(k+1)) (prow (ps.drop (k+1))) (by simp [Act.eval,Act.put]) s1.out hsrc.out s2.out (by omega) (by rw [s1.out];omega) R HR.out ?_)
  go_wp2_with fail
  go_ret
  have hn1:k+(n-(k+1))=n-1:=by omega
  have hw2:=HW2.out
  rw [hn1] at hw2
  refine ⟨by rw [←hn1];rfl,⟨by rw [a1u,List.length_eraseIdx_of_lt (by rw [←HHN.out];exact hk),←HHN.out];omega,Or.inr ⟨g,cap,_,rfl,Nat.zero_le _,hw2,by omega,hcm,?_,?_⟩⟩,?_⟩
  ·have:=HRs.out
   simp only [List.size_toArray,List.length_append,List.length_take,List.length_drop,Array.length_toList,List.length_cons,List.length_nil]
   omega
  ·have h1:prow (ps.eraseIdx k)=(prow ps).take (k * 2)++prow (ps.drop (k+1)):=by rw [List.eraseIdx_eq_take_drop_succ,a0q,b2f]
   have h2:(cur.toList.take (k * 2)++prow (ps.drop (k+1))).length=(n-1) * 2:=by
    rw [List.length_append,s1.out,List.length_take,Array.length_toList]
    omega
   rw [show ∀ l:List Value,l.toArray.toList=l from fun l=>by simp,List.append_assoc,List.take_left' (by rw [List.length_take,Array.length_toList,HRs.out];omega),HR.out]
   rw [show ∀ l:List Value,l.toArray.toList=l from fun l=>by simp,List.take_left' h2,h1,←HTK.out,List.take_take,Nat.min_eq_left (by omega)]
  ·have h3:Alike w (w.drew.setRow g R) (fun j=>j=g):=⟨by simp,fun j _ hj=>setRow_other _ _ _ _ hj,rfl,rfl,rfl⟩
   exact h3.trans HA2.out (fun _ _ h=>h)
structure Way (w:World) (mb:Nat) (wa:Option Addr) (wcap:Nat) (bag:List Pk):Prop where
 c1:w.cell? ⟨mb,1,none⟩=some (.slice wa bag.length wcap)
 own:w.ownsRow 0 109 2 (.slice wa bag.length wcap) bag.length (prow bag)
 ty:∃ cur,w.heap[mb]?=some (.cells cur 196 (0,0))
structure Laid (w w':World) (mb:Nat) (wa:Option Addr) (bag:List Pk):Prop where
 how:∃ wa' wcap',Way w' mb wa' wcap' bag∧∀ k,onB wa' k→onB wa k∨w.heap.size≤k
 rest:Alike w w' (fun k=>k=mb∨onB wa k)
 c0:∀ v,w.cell? ⟨mb,0,none⟩=some v→w'.cell? ⟨mb,0,none⟩=some v
theorem Way.off {w:World} {mb:Nat} {wa:Option Addr} {wcap:Nat} {bag:List Pk} (h:Way w mb wa wcap bag) {k:Nat} {cur:Array Value} {t:TypeId} {fz:Nat × Nat} (hk:w.heap[k]?=some (.cells cur t fz)) (ht:t≠109):¬ onB wa k:=by
 rintro ⟨off,hs⟩
 rcases h.own.2 with ⟨he,_⟩ | ⟨g,cap',cur',he,_,hh,_⟩
 ·rw [hs] at he;cases he
 ·cases he
  cases hs
  exact ty_ne hk hh ht rfl
theorem run_append_nothing {P:Program} (w:World) (t ty e:TypeId) (i:TypeInfo) (ht:P.underlying t=some (.slice e)) (hi:P.info? e=some i) (wa:Option Addr) (n cap:Nat) (h:n≤cap):(Builtin.append_ #[t,t] ty #[.slice wa n cap,.slice none 0 0]).run P w=.ok (.slice wa n cap) w:=by
 cases wa with
 | none=>simp [Builtin.append_,run_underlying ht,sizeOf,typeInfo,hi,Builtin.lenOf,Builtin.firstCells,h]
 | some a=>simp [Builtin.append_,run_underlying ht,sizeOf,typeInfo,hi,Builtin.lenOf,Builtin.firstCells,loadCells,h,storeCells]
theorem a4i {P:Program} (w:World) {ops:Array Oper} {rest:List Oper} {o:Oper} {a:Act} {Q:Exit→Act→World→Prop} (hgd:o.guard=none) (s x:Operand) (t:TypeId)
  (ho:o.op=.call { callee:=.builtin .append,args:=#[s,x],argTypes:=#[t,t] }) (e:TypeId) (i:TypeInfo) (ht:P.underlying t=some (.slice e)) (hi:P.info? e=some i) (wa:Option Addr) (n cap:Nat) (hs:a.eval s=.slice wa n cap) (hx:a.eval x=.slice none 0 0) (hn:n≤cap)
  (h:wpList P ops Q rest (a.put o.dst (.slice wa n cap)) w):wpList P ops Q (o :: rest) a w:=by
 refine wpList_plain hgd fun K hK=>?_
 have hr:=run_append_nothing (P:=P) w t o.type e i ht hi wa n cap hn
 unfold Oper.wp execOp
 simp only [ho,resolve,invoke,builtin,Sem.run_bind,Sem.run_pure,Result.andThen_ok,List.map_toArray,List.map_cons,List.map_nil,hs,hx,hr]
 exact hK _ _ h
theorem Way.le {w:World} {mb:Nat} {wa:Option Addr} {wcap:Nat} {bag:List Pk} (h:Way w mb wa wcap bag):bag.length≤wcap:=by
 rcases h.own.2 with ⟨he,h0⟩ | ⟨g,cap',cur',he,_,_,hnc,_⟩
 ·simp only [Value.slice.injEq] at he;omega
 ·cases he;exact hnc
theorem ao4 {w w1:World} {mb:Nat} {wa wa':Option Addr} {wcap wcap':Nat} {bag bag':List Pk} (h:Way w mb wa wcap bag) (hrest:Alike w w1 (onB wa)) (hown:w1.ownsRow 0 109 2 (.slice wa' bag'.length wcap') bag'.length (prow bag')) (hnew:∀ k,onB wa' k→onB wa k∨w.heap.size≤k) :
  Laid w (w1.setCell ⟨mb,1,none⟩ (.slice wa' bag'.length wcap')) mb wa bag':=by
 obtain ⟨cur,ht⟩:=h.ty
 have hbl:=lt_of_some ht
 have hnb:¬ onB wa mb:=h.off ht (by decide)
 have hty:w1.heap[mb]?=some (.cells cur 196 (0,0)):=(hrest.block mb hbl hnb).trans ht
 have hset:=Alike.setCell w1 ⟨mb,1,none⟩ (.slice wa' bag'.length wcap')
 have hc1:=hrest.cell h.c1 hnb
 refine ⟨⟨wa',wcap',⟨World.cell?_setCell_same _ _ _ hc1,⟨hown.1,?_⟩,_,heap_setCell_same w1 mb 1 cur _ _ hty⟩,hnew⟩,?_,fun v hv=>?_⟩
 ·rcases hown.2 with h' | ⟨g,cap',cur',he,hg,hh,hr⟩
  ·exact Or.inl h'
  ·refine Or.inr ⟨g,cap',cur',he,hg,(hset.block g (lt_of_some hh) ?_).trans hh,hr⟩
   intro e
   have e':g=mb:=e
   subst e'
   exact ty_ne hh hty (by decide) rfl
 ·exact ((Alike.refl w (fun k=>k=mb∨onB wa k)).trans hrest (fun k _ h=>Or.inr h)).trans hset (fun k _ h=>Or.inl h)
 ·exact (World.cell?_setCell_other _ _ _ _ (by intro h;simp only [Addr.mk.injEq] at h;omega)).trans (hrest.cell hv hnb)
set_option maxHeartbeats 1000000 in
theorem a7d (mb:Nat) (wa:Option Addr) (wcap:Nat) (bag ps:List Pk) (v:Value) (base:Nat) (w:World) (h:Way w mb wa wcap bag) (hp:Pks w base v ps) (hne:∀ k,v.ownBlock=some k→¬ onB wa k) (hl:bag.length+ps.length≤1000000000000) :
  Calls Tryz.prog 136 #[.pointer (some ⟨mb,0,none⟩),v] w fun e w'=>e=.returned (.tuple #[])∧Laid w w' mb wa (bag++ps):=by
 obtain ⟨av,cv,hsh⟩:=a01 hp.own
 subst hsh
 have c1:=h.c1
 have fz:=a0h h.ty 1
 have HH:Hid _:=h
 obtain ⟨i0,hi,hz0,hz1,hz2⟩:=info_parts Tryz.a13
 have hle:=h.le
 rcases hp.own.2 with ⟨he,h0⟩ | ⟨g,cap',cur,he,_,hh,hnc,_,hcs,htk⟩
 ·simp only [Value.slice.injEq] at he
  obtain ⟨rfl,_,rfl⟩:=he
  have HE:Hid (ps=[]):=List.length_eq_zero_iff.1 h0
  clear h hp
  rw [h0]
  go_enter Tryz.func136,Tryz.ntmps136
  go_wp2_with (at_builtin;refine a4i _ rfl (.tmp 8) (.tmp 9) 54 rfl 109 i0 Tryz.underlying54 hi wa bag.length wcap rfl rfl hle ?_)
  go_wp2_with fail
  refine bodyPost_end (v:=.tuple #[]) (by simp [results,Tryz.results136,go_sem]) rfl ⟨rfl,?_⟩
  rw [HE.out,List.append_nil]
  exact ao4 HH.out (Alike.refl _ _) HH.out.own (fun k hk=>Or.inl hk)
 ·cases he
  have HN:Hid (∀ j u,(prow ps)[j]?=some u→w.cell? ((⟨g,0,none⟩:Addr).add j)=some u):=fun j u hu=>by
   rw [Addr.add_lit,Nat.zero_add,cell_of_row w g j cur _ (0,0) hh,←Array.getElem?_toList]
   rw [←htk,List.getElem?_take] at hu
   split at hu
   ·exact hu
   ·cases hu
  have HL:Hid ((prow ps).length=ps.length * 2):=hp.own.1
  have HOne:Hid _:=at0 ps
  have HO:Hid _:=h.own
  have HMb:Hid (¬ onB wa mb):=by obtain ⟨c,e⟩:=h.ty;exact h.off e (by decide)
  have hmz:mb<w.heap.size:=lt_of_cell c1
  clear h hp hh htk hcs hnc hne
  go_enter Tryz.func136,Tryz.ntmps136
  go_wp2_with (at_builtin;refine wpList_append_own_at _ rfl (.tmp 8) (.tmp 9) 54 rfl 0 109 i0 _ 2 24 Tryz.underlying54 hi hz0 hz1 hz2 rfl (by decide) _ _ _ rfl HO.out ⟨g,0,none⟩ ps.length cv (prow ps) rfl HL.out HN.out HOne.out (by unfold maxLen;omega) (by omega) (Nat.zero_le _) ?_)
  intro v' w1 hown hgrow _ hat
  have HB:Hid (Alike w w1 (onB wa)):=(Alike.refl w _).trans (Alike.a2h hgrow) (fun k _ hk=>by
   rcases HH.out.own.2 with ⟨he,_⟩ | ⟨g',cap',cur',he,_⟩
   ·rw [he] at hk;cases hk
   ·cases he
    cases hk
    exact ⟨0,rfl⟩)
  obtain ⟨a4,c4,hg4⟩:=a01 hown
  subst hg4
  have HOw:Hid (w1.ownsRow 0 109 2 (.slice a4 (bag++ps).length c4) (bag++ps).length (prow (bag++ps))):=by
   show World.ownsRow _ _ _ _ _ _ _
   rw [List.length_append,a0q]
   exact hown
  have HNew:Hid (∀ k,onB a4 k→onB wa k∨w.heap.size≤k):=fun k ⟨off,hk⟩=>by
   rcases hown.2 with ⟨he,_⟩ | ⟨g',cap',cur',he,_⟩
   ·rw [hk] at he;cases he
   ·cases he
    cases hk
    rcases hat with h | h
    ·rcases HH.out.own.2 with ⟨he,_⟩ | ⟨g',cap',cur',he,_⟩
     ·rw [he] at h;cases h
     ·cases he
      cases h
      exact Or.inl ⟨0,rfl⟩
    ·cases h
     exact Or.inr (Nat.le_refl _)
  have c11:=HB.out.cell c1 HMb.out
  have f11:=HB.out.frozen hmz fz HMb.out
  clear hown hgrow hat c1 fz
  go_wp2_with fail
  refine bodyPost_end (v:=.tuple #[]) (by simp [results,Tryz.results136,go_sem]) rfl ⟨rfl,?_⟩
  have:=ao4 HH.out HB.out HOw.out HNew.out
  rw [List.length_append] at this
  exact this
set_option maxHeartbeats 1000000 in
theorem aa9 (mb:Nat) (wa:Option Addr) (wcap:Nat) (bag:List Pk) (k:Nat) (hk:k<bag.length) (hl:bag.length≤1000000000000) (w:World) (h:Way w mb wa wcap bag) :
  Calls Tryz.prog 137 #[.pointer (some ⟨mb,0,none⟩),.int .i64 k] w fun e w'=>e=.returned (.tuple #[])∧Laid w w' mb wa (bag.eraseIdx k):=by
 have c1:=h.c1
 have fz:=a0h h.ty 1
 have HH:Hid _:=h
 have HMb:Hid (¬ onB wa mb):=by obtain ⟨c,e⟩:=h.ty;exact h.off e (by decide)
 have hmz:mb<w.heap.size:=lt_of_cell c1
 obtain ⟨g,hwa⟩:∃ g,wa=some ⟨g,0,none⟩:=by
  rcases h.own.2 with ⟨_,h0⟩ | ⟨g,cap',cur,he,_⟩
  ·omega
  ·cases he;exact ⟨g,rfl⟩
 subst hwa
 have HD:Hid _:=ay0 g wcap k bag w h.own hk
 have HEl:Hid ((bag.eraseIdx k).length=bag.length-1):=List.length_eraseIdx_of_lt hk
 clear h
 go_enter Tryz.func137,Tryz.ntmps137
 go_wp2_with fail
 refine (show Calls _ _ _ _ _ from HD.out).mono ?_
 rintro e w1 ⟨rfl,hown,ha⟩
 have HB:Hid (Alike w w1 (onB (some ⟨g,0,none⟩))):=(Alike.refl w _).trans ha (fun k _ hk=>by rw [hk];exact ⟨0,rfl⟩)
 have HOw:Hid _:=hown
 have c11:=HB.out.cell c1 HMb.out
 have f11:=HB.out.frozen hmz fz HMb.out
 clear hown ha c1 fz HD
 go_wp2_with fail
 refine bodyPost_end (v:=.tuple #[]) (by simp [results,Tryz.results137,go_sem]) rfl ⟨rfl,?_⟩
 have:=ao4 (wa':=some ⟨g,0,none⟩) (wcap':=wcap) (bag':=bag.eraseIdx k) HH.out HB.out (by rw [HEl.out];exact HOw.out) (fun k hk=>Or.inl hk)
 rw [HEl.out] at this
 exact this
end Go.Proofs.YtabecbjfamphbaaGreatDoor
