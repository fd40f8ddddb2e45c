/- A part of the proof. -/
import Derived.Test.YtabecbjfamphbaaGreatDoorM11
import Derived.BigQuiet
namespace Go.Proofs.YtabecbjfamphbaaGreatDoor
open Go.RowKit Go.Stop Go.Extern
set_option maxRecDepth 100000
set_option maxHeartbeats 1000000 in
theorem a8u (a0 a1:Addr) (N W B L K F O S Lw:Int) (ad:Option Addr) (len cap:Nat) (body:ByteArray) (vs:List Int) (w:World) (hw:Sent w a0 a1) (hi:Ints w ad len vs)
  (hl:len≤maxLen) (hbd:body.size≤maxLen) :
  Calls Tryz.prog 83 #[.agg #[.int .i64 N,.int .i64 W,.int .i64 B,.int .i64 L],.agg #[.int .i64 K,.int .i64 F,.int .i64 O,.int .i64 S,.int .i64 Lw,.slice ad len cap,.string body]] w fun e w'=>e=.returned (.tuple #[.string (txt (encR N W B L K F O S Lw vs body).1),.int .i64 (encR N W B L K F O S Lw vs body).2])∧Below w.heap.size w w':=by
 have HW:Hid (Sent w a0 a1):=hw
 have HI:Hid (Ints w ad len vs):=hi
 have HLm:Hid (len≤maxLen):=hl
 have HBd:Hid (body.size≤maxLen):=hbd
 clear hw hi hl hbd
 generalize hg1:encR N W B L K F O S Lw vs body=r
 have HR:Hid (encR N W B L K F O S Lw vs body=r):=hg1
 clear hg1
 go_enter Tryz.func83,Tryz.ntmps83
 go_wp2_with fail
 refine (a4y a0 a1 N W B L K F O S Lw ad len cap body vs _ ((HW.out.alloc _).alloc _) ((HI.out.alloc _).alloc _) HLm.out HBd.out).mono ?_
 rintro e w1 ⟨⟨v,rfl,hv⟩,hb⟩
 rw [HR.out] at hv ⊢
 have HV:Hid _:=hv
 have HB:Hid _:=hb
 clear hv hb
 go_wp2_with fail
 refine (a6z a0 a1 v r.2 HV.out _ (((HW.out.alloc _).alloc _).below HB.out)).mono ?_
 rintro e w2 ⟨rfl,hb2⟩
 have HB2:Hid _:=hb2
 clear hb2
 go_wp2
 go_ret2
 exact ⟨rfl,bthen (bthen (a09 _ _ _) HB.out) HB2.out⟩
set_option maxHeartbeats 400000 in
theorem a2b (N W B L p:Int) (w:World) :
  Calls Tryz.prog 165 #[.agg #[.int .i64 N,.int .i64 W,.int .i64 B,.int .i64 L],.int .i64 p] w fun e w'=>e=.returned (.bool (decide (0≤p∧p<N)))∧Below w.heap.size w w':=by
 by_cases h1:0≤p
 ·by_cases h2:p<N
  ·rw [decide_eq_true (by exact ⟨h1,h2⟩)]
   go_enter Tryz.func165,Tryz.ntmps165
   go_wp2
   go_ret
   exact ⟨rfl,a00 _ _⟩
  ·rw [decide_eq_false (by omega)]
   go_enter Tryz.func165,Tryz.ntmps165
   go_wp2
   go_ret
   exact ⟨rfl,a00 _ _⟩
 ·rw [decide_eq_false (by omega)]
  go_enter Tryz.func165,Tryz.ntmps165
  go_wp2
  go_ret
  exact ⟨rfl,a00 _ _⟩
def IsB (e:Ending) (P:Prop):Prop:=∃ b:Bool,e=.returned (.bool b)∧(b=true↔P)
theorem a2n {e:Ending} {P:Prop} (b:Bool) (h:e=.returned (.bool b)) (hp:b=true↔P):IsB e P:=⟨b,h,hp⟩
theorem aq0 {vs:List Int} {L:Int} (h:∀ v∈vs,0≤v∧v≤L) {k:Nat} (hk:k<vs.length):0≤vs.getD k 0∧vs.getD k 0≤L:=by
 rw [List.getD_eq_getElem?_getD,List.getElem?_eq_getElem hk]
 exact h _ (List.getElem_mem hk)
theorem b7z {vs:List Int} {L:Int} (h:∀ i,i<vs.length→0≤vs.getD i 0∧vs.getD i 0≤L):∀ v∈vs,0≤v∧v≤L:=by
 intro v hv
 obtain ⟨i,hi,rfl⟩:=List.mem_iff_getElem.1 hv
 have:=h i hi
 rw [List.getD_eq_getElem?_getD,List.getElem?_eq_getElem hi] at this
 exact this
set_option maxHeartbeats 8000000 in
theorem b06 (N W B L K F O S Lw:Int) (ad:Option Addr) (len cap:Nat) (body:ByteArray) (vs:List Int) (w:World) (hi:Ints w ad len vs) (hG:okG N W B L=true) (hl:len≤maxLen) (_hbd:body.size≤maxLen) :
  Calls Tryz.prog 198 #[.agg #[.int .i64 N,.int .i64 W,.int .i64 B,.int .i64 L],.agg #[.int .i64 K,.int .i64 F,.int .i64 O,.int .i64 S,.int .i64 Lw,.slice ad len cap,.string body]] w fun e w'=>IsB e (Fits N W B L K F O S Lw vs body)∧Below w.heap.size w w':=by
 have HI:Hid (Ints w ad len vs):=hi
 have HL:Hid (vs.length=len):=hi.len
 obtain ⟨h1,h2,h3,h4,h5,h6,h7,h8⟩:=a0u.1 hG
 unfold maxLen at hl _hbd
 have HBX0:Hid _:=a0x w N W B L K F O S Lw ad len cap body 26 45
 clear hi hG
 by_cases hF:0≤F∧F<N
 ·have hFd:decide (0≤F∧F<N)=true:=decide_eq_true hF
  go_enter Tryz.func198,Tryz.ntmps198
  go_wp2_with fail
  refine (a2b N W B L F _).mono ?_
  rintro e w1 ⟨rfl,hb⟩
  rw [hFd]
  have HB:Hid _:=hb
  have BX1:=HBX0.out.below hb (by simp)
  have HBX1:Hid _:=BX1
  obtain ⟨cN,cW,cB,cL,cK,cF,cO,cS,cLw,cV,cT,cz⟩:=BX1
  clear hb
  have HI1:Hid (Ints w1 ad len vs):=((HI.out.alloc _).alloc _).below HB.out
  by_cases hN:(len:Int)=N
  ·have hNb:((len:Int) != N)=false:=by simp [hN]
   have hlen8:len≤8:=by omega
   have HN:Hid ((len:Int)=N):=hN
   clear hN
   go_wp2
   go_loopw [6] (fun c wr=>∃ k:Nat,k≤len∧c=.int .i64 k∧(∀ i,i<k→0≤vs.getD i 0∧vs.getD i 0≤L)∧Below w1.heap.size w1 wr) (fun c _=>len-(intOf c).toNat)
   case atStart=>exact ⟨0,Nat.zero_le _,rfl,fun i hi=>absurd hi (Nat.not_lt_zero _),Below.refl _ _⟩
   case round =>
    obtain ⟨k,hk,rfl,hgood,hbel⟩:=hrel
    have HGd:Hid (∀ i,i<k→0≤vs.getD i 0∧vs.getD i 0≤L):=hgood
    have HBr:Hid (Below w1.heap.size w1 wr):=hbel
    have BXr:=HBX1.out.below hbel cz
    have HBXr:Hid _:=BXr
    clear hgood hbel cN cW cB cL cK cF cO cS cLw cV cT cz
    obtain ⟨cN,cW,cB,cL,cK,cF,cO,cS,cLw,cV,cT,cz⟩:=BXr
    by_cases hlt:k<len
    ·obtain ⟨b,off,rfl,hbl,hcell⟩:=(HI1.out.below HBr.out).cell k hlt
     obtain ⟨x,hx⟩:∃ x,x=vs.getD k 0:=⟨_,rfl⟩
     rw [←hx] at hcell
     have HX:Hid (x=vs.getD k 0):=hx
     clear hx
     have hlti:(k:Int)<(len:Int):=by omega
     by_cases hx0:x<0
     ·have hnot:Hid (¬ Fits N W B L K F O S Lw vs body):=fun hf=>by
       have:=aq0 hf.vec (show k<vs.length by rw [HL.out];exact hlt)
       rw [←HX.out] at this;omega
      go_wp2
      go_quiet (fail)
      go_wp2
      go_ret
      exact ⟨a2n false rfl (by simp [hnot.out]),bthen (bthen (a09 _ _ _) HB.out) (below_drewN HBr.out _)⟩
     ·have hd:decide (x<0)=false:=decide_eq_false hx0
      have hx00:0≤x:=by omega
      by_cases hxL:L<x
      ·have hnot:Hid (¬ Fits N W B L K F O S Lw vs body):=fun hf=>by
        have:=aq0 hf.vec (show k<vs.length by rw [HL.out];exact hlt)
        rw [←HX.out] at this;omega
       go_wp2
       go_quiet (fail)
       go_wp2
       go_ret
       exact ⟨a2n false rfl (by simp [hnot.out]),bthen (bthen (a09 _ _ _) HB.out) (below_drewN HBr.out _)⟩
      ·have hxL':x≤L:=by omega
       have HGn:Hid (∀ i,i<k+1→0≤vs.getD i 0∧vs.getD i 0≤L):=by
        intro i hi
        by_cases e:i=k
        ·subst e;rw [←HX.out];exact ⟨hx00,hxL'⟩
        ·exact HGd.out i (by omega)
       clear hxL
       go_wp2
       go_quiet (fail)
       go_wp2
       go_roundw
       case rel=>exact ⟨k+1,by omega,by go_num,HGn.out,below_drewN HBr.out _⟩
       case measure=>simp [intOf];omega
    ·have HVec:Hid (∀ v∈vs,0≤v∧v≤L):=b7z (fun i hi=>HGd.out i (by rw [HL.out] at hi;omega))
     have HLn:Hid ((vs.length:Int)=N):=by rw [HL.out];exact HN.out
     clear HGd
     by_cases hK2:K=2
     ·subst hK2
      have HIff:Hid (Fits N W B L 2 F O S Lw vs body↔O=0∧S=0∧Lw=0∧body.toList.isEmpty=true):=by
       constructor
       ·intro hf
        rcases hf.kind with ⟨_,o,sq,lw,bd⟩ | ⟨c,_⟩
        ·exact ⟨o,sq,lw,(a2m body).2 bd⟩
        ·omega
       ·rintro ⟨o,sq,lw,bd⟩
        exact ⟨hF.1,hF.2,HLn.out,HVec.out,Or.inl ⟨rfl,o,sq,lw,(a2m body).1 bd⟩⟩
      by_cases hO:O=0
      ·subst hO
       by_cases hS:S=0
       ·subst hS
        by_cases hLw:Lw=0
        ·subst hLw
         go_wp2
         go_ret
         exact ⟨a2n _ rfl (by rw [HIff.out];simp),bthen (bthen (a09 _ _ _) HB.out) HBr.out⟩
        ·have hb:(Lw == 0)=false:=beq_eq_false_iff_ne.2 hLw
         have hno:Hid (¬ Fits N W B L 2 F 0 0 Lw vs body):=fun hf=>hLw (HIff.out.1 hf).2.2.1
         clear hLw
         go_wp2
         go_ret
         exact ⟨a2n false rfl (by simp [hno.out]),bthen (bthen (a09 _ _ _) HB.out) HBr.out⟩
       ·have hb:(S == 0)=false:=beq_eq_false_iff_ne.2 hS
        have hno:Hid (¬ Fits N W B L 2 F 0 S Lw vs body):=fun hf=>hS (HIff.out.1 hf).2.1
        clear hS
        go_wp2
        go_ret
        exact ⟨a2n false rfl (by simp [hno.out]),bthen (bthen (a09 _ _ _) HB.out) HBr.out⟩
      ·have hb:(O == 0)=false:=beq_eq_false_iff_ne.2 hO
       have hno:Hid (¬ Fits N W B L 2 F O S Lw vs body):=fun hf=>hO (HIff.out.1 hf).1
       clear hO
       go_wp2
       go_ret
       exact ⟨a2n false rfl (by simp [hno.out]),bthen (bthen (a09 _ _ _) HB.out) HBr.out⟩
     ·have hK2b:(K == 2)=false:=beq_eq_false_iff_ne.2 hK2
      have HK2:Hid (¬ K=2):=hK2
      clear hK2
      have HIff:Hid (Fits N W B L K F O S Lw vs body↔(K=1∧(0≤O∧O<N)∧1≤S∧S≤L∧0≤Lw∧Lw<S∧S-Lw≤W∧vs.getD O.toNat 0+1=S∧(body.size:Int)≤B)):=by
       constructor
       ·intro hf
        rcases hf.kind with ⟨c,_⟩ | ⟨k1,o0,o1,s1,s2,l0,l1,l2,hv2,bd⟩
        ·exact absurd c HK2.out
        ·exact ⟨k1,⟨o0,o1⟩,s1,s2,l0,l1,by omega,by omega,bd⟩
       ·rintro ⟨k1,⟨o0,o1⟩,s1,s2,l0,l1,l2,hv2,bd⟩
        exact ⟨hF.1,hF.2,HLn.out,HVec.out,Or.inr ⟨k1,o0,o1,s1,s2,l0,l1,by omega,by omega,bd⟩⟩
      go_wp2_with fail
      refine (a2b N W B L O _).mono ?_
      rintro e w2 ⟨rfl,hb2⟩
      have HB2:Hid _:=hb2
      have BX2:=HBXr.out.below hb2 cz
      clear cN cW cB cL cK cF cO cS cLw cV cT cz hb2
      obtain ⟨cN,cW,cB,cL,cK,cF,cO,cS,cLw,cV,cT,cz⟩:=BX2
      have HI2:Hid (Ints w2 ad len vs):=(HI1.out.below HBr.out).below HB2.out
      have HBq:Hid (Below w.heap.size w w2):=bthen (bthen (bthen (a09 _ _ _) HB.out) HBr.out) HB2.out
      by_cases c1:K=1
      ·subst c1
       by_cases c2:0≤O∧O<N
       ·rw [decide_eq_true c2]
        by_cases c3:S<1∨L<S∨Lw<0∨S≤Lw
        ·have hno:Hid (¬ Fits N W B L 1 F O S Lw vs body):=fun hf=>by have:=HIff.out.1 hf;omega
         by_cases d1:S<1
         ·clear c3
          go_wp2
          go_ret
          exact ⟨a2n false rfl (by simp [hno.out]),HBq.out⟩
         by_cases d2:L<S
         ·clear c3
          go_wp2
          go_ret
          exact ⟨a2n false rfl (by simp [hno.out]),HBq.out⟩
         by_cases d3:Lw<0
         ·clear c3
          go_wp2
          go_ret
          exact ⟨a2n false rfl (by simp [hno.out]),HBq.out⟩
         have d4:S≤Lw:=by omega
         clear c3
         go_wp2
         go_ret
         exact ⟨a2n false rfl (by simp [hno.out]),HBq.out⟩
        ·have d1:1≤S:=by omega
         have d2:S≤L:=by omega
         have d3:0≤Lw:=by omega
         have d4:Lw<S:=by omega
         clear c3
         by_cases d5:W<S-Lw
         ·have hno:Hid (¬ Fits N W B L 1 F O S Lw vs body):=fun hf=>by have:=HIff.out.1 hf;omega
          go_wp2
          go_ret
          exact ⟨a2n false rfl (by simp [hno.out]),HBq.out⟩
         ·have d6:S-Lw≤W:=by omega
          clear d5
          obtain ⟨q,rfl⟩:=Int.eq_ofNat_of_zero_le c2.1
          have hq:q<len:=by have:=HN.out;omega
          obtain ⟨b,off,rfl,hbl,hcell⟩:=HI2.out.cell q hq
          have hxb:=aq0 HVec.out (show q<vs.length by rw [HL.out];exact hq)
          obtain ⟨x,hx⟩:∃ x,x=vs.getD q 0:=⟨_,rfl⟩
          rw [←hx] at hcell hxb
          have HX:Hid (x=vs.getD q 0):=hx
          clear hx
          obtain ⟨x0,x1⟩:=hxb
          have hqi:(q:Int)<(len:Int):=by omega
          rw [Int.toNat_natCast,←HX.out] at HIff
          by_cases d7:x+1=S
          ·have d7b:(x+1 == S)=true:=beq_iff_eq.2 d7
           have hfin:Hid (Fits N W B L 1 F (q:Int) S Lw vs body↔(body.size:Int)≤B):=by
            show _↔_
            rw [HIff.out]
            exact ⟨fun h=>h.2.2.2.2.2.2.2.2,fun h=>⟨rfl,⟨c2.1,c2.2⟩,d1,d2,d3,d4,d6,d7,h⟩⟩
           clear d7 HIff
           go_wp2
           go_quiet (fail)
           go_wp2
           go_ret
           exact ⟨a2n _ rfl (by rw [hfin.out];simp),below_drewN HBq.out _⟩
          ·have d7b:(x+1 == S)=false:=beq_eq_false_iff_ne.2 d7
           have hno:Hid (¬ Fits N W B L 1 F (q:Int) S Lw vs body):=fun hf=>d7 (HIff.out.1 hf).2.2.2.2.2.2.2.1
           clear d7 HIff
           go_wp2
           go_quiet (fail)
           go_wp2
           go_ret
           exact ⟨a2n false rfl (by simp [hno.out]),below_drewN HBq.out _⟩
       ·rw [decide_eq_false c2]
        have hno:Hid (¬ Fits N W B L 1 F O S Lw vs body):=fun hf=>c2 (HIff.out.1 hf).2.1
        clear c2
        go_wp2
        go_ret
        exact ⟨a2n false rfl (by simp [hno.out]),HBq.out⟩
      ·have c1b:(K != 1)=true:=bne_iff_ne.2 c1
       have hno:Hid (¬ Fits N W B L K F O S Lw vs body):=fun hf=>c1 (HIff.out.1 hf).1
       clear c1
       generalize decide (0≤O∧O<N)=dd
       go_wp2
       go_ret
       exact ⟨a2n false rfl (by simp [hno.out]),HBq.out⟩
  ·have hNb:((len:Int) != N)=true:=bne_iff_ne.2 hN
   have hno:Hid (¬ Fits N W B L K F O S Lw vs body):=fun hf=>hN (by rw [←HL.out];exact hf.len)
   clear hN
   go_wp2
   go_ret
   exact ⟨a2n false rfl (by simp [hno.out]),bthen (a09 _ _ _) HB.out⟩
 ·have hFd:decide (0≤F∧F<N)=false:=decide_eq_false hF
  have hno:Hid (¬ Fits N W B L K F O S Lw vs body):=fun hf=>hF ⟨hf.from0,hf.from1⟩
  clear hF
  go_enter Tryz.func198,Tryz.ntmps198
  go_wp2_with fail
  refine (a2b N W B L F _).mono ?_
  rintro e w1 ⟨rfl,hb⟩
  rw [hFd]
  have HB:Hid _:=hb
  clear hb
  go_wp2
  go_ret
  exact ⟨a2n false rfl (by simp [hno.out]),bthen (a09 _ _ _) HB.out⟩
end Go.Proofs.YtabecbjfamphbaaGreatDoor
