/- A part of the proof. -/
import Derived.Test.YtabecbjfamphbaaGreatDoorM09
import Derived.Lib.AppendStr
import Derived.Laws.IdiomStrings
import Derived.Laws.BytesArg
namespace Go.Proofs.YtabecbjfamphbaaGreatDoor
open Go.RowKit Go.Stop Go.Extern
set_option maxRecDepth 100000
set_option maxHeartbeats 2000000 in
theorem a5e (a0 a1:Addr) (N W B L K F O S Lw:Int) (ad:Option Addr) (len cap:Nat) (body:ByteArray) (vs:List Int) (w:World) (hw:Sent w a0 a1) (hi:Ints w ad len vs)
  (hG:okG N W B L=true) (hl:len≤maxLen) :
  Calls Tryz.prog 206 #[.agg #[.int .i64 N,.int .i64 W,.int .i64 B,.int .i64 L],.agg #[.int .i64 K,.int .i64 F,.int .i64 O,.int .i64 S,.int .i64 Lw,.slice ad len cap,.string body]] w fun e w'=>(∃ v,e=.returned v∧IsF a1 v (a4n N L K O S Lw vs body.toList.isEmpty))∧Below w.heap.size w w':=by
 have HW:Hid (Sent w a0 a1):=hw
 have HI:Hid (Ints w ad len vs):=hi
 have HG:Hid (okG N W B L=true):=hG
 have HLm:Hid (len≤maxLen):=hl
 clear hw hi hG hl
 by_cases hO:O=0
 ·by_cases hS:S=0
  ·by_cases hLw:Lw=0
   ·by_cases hE:body.toList.isEmpty=true
    ·rw [show a4n N L K O S Lw vs body.toList.isEmpty=rVec N L K O S vs from if_pos ⟨hO,hS,hLw,hE⟩]
     subst hO hS hLw
     go_enter Tryz.func206,Tryz.ntmps206
     go_wp2_with fail
     refine (a4l a0 a1 N W B L K F 0 0 0 ad len cap body vs _ ((HW.out.alloc _).alloc _) ((HI.out.alloc _).alloc _) HG.out (by omega) HLm.out).mono ?_
     rintro e w' ⟨⟨v,rfl,hv⟩,hb⟩
     have HB:Hid _:=hb
     have HV:Hid _:=hv
     clear hb hv
     go_wp2
     go_ret
     exact ⟨⟨_,rfl,HV.out⟩,bthen (a09 _ _ _) HB.out⟩
    ·rw [show a4n N L K O S Lw vs body.toList.isEmpty=some none from if_neg (fun h=>hE h.2.2.2)]
     subst hO hS hLw
     have hE':body.toList.isEmpty=false:=by simpa using hE
     clear hE
     go_enter Tryz.func206,Tryz.ntmps206
     go_wp2_with (go_at_call 227;refine (a1j a0 a1 _ _ ((HW.out.alloc _).alloc _)).mono ?_;rintro e w' ⟨rfl,rfl⟩)
     go_ret
     exact ⟨⟨_,rfl,IsF.why a1 _⟩,a09 _ _ _⟩
   ·rw [show a4n N L K O S Lw vs body.toList.isEmpty=some none from if_neg (fun h=>hLw h.2.2.1)]
    subst hO hS
    have hb:(Lw != 0)=true:=bne_iff_ne.2 hLw
    clear hLw
    go_enter Tryz.func206,Tryz.ntmps206
    go_wp2_with (go_at_call 227;refine (a1j a0 a1 _ _ ((HW.out.alloc _).alloc _)).mono ?_;rintro e w' ⟨rfl,rfl⟩)
    go_ret
    exact ⟨⟨_,rfl,IsF.why a1 _⟩,a09 _ _ _⟩
  ·rw [show a4n N L K O S Lw vs body.toList.isEmpty=some none from if_neg (fun h=>hS h.2.1)]
   subst hO
   have hb:(S != 0)=true:=bne_iff_ne.2 hS
   clear hS
   go_enter Tryz.func206,Tryz.ntmps206
   go_wp2_with (go_at_call 227;refine (a1j a0 a1 _ _ ((HW.out.alloc _).alloc _)).mono ?_;rintro e w' ⟨rfl,rfl⟩)
   go_ret
   exact ⟨⟨_,rfl,IsF.why a1 _⟩,a09 _ _ _⟩
 ·rw [show a4n N L K O S Lw vs body.toList.isEmpty=some none from if_neg (fun h=>hO h.1)]
  have hb:(O != 0)=true:=bne_iff_ne.2 hO
  clear hO
  go_enter Tryz.func206,Tryz.ntmps206
  go_wp2_with (go_at_call 227;refine (a1j a0 a1 _ _ ((HW.out.alloc _).alloc _)).mono ?_;rintro e w' ⟨rfl,rfl⟩)
  go_ret
  exact ⟨⟨_,rfl,IsF.why a1 _⟩,a09 _ _ _⟩
theorem bcell {W w1:World} (hb:Below W.heap.size W w1):(∀ b o,b<W.heap.size→w1.cell? ⟨b,o,none⟩=W.cell? ⟨b,o,none⟩)∧(∀ b o,b<W.heap.size→w1.frozen? ⟨b,o,none⟩=W.frozen? ⟨b,o,none⟩):=
 ⟨fun b o h=>hb.cell (p:=⟨b,o,none⟩) h,fun b o h=>hb.frozen (p:=⟨b,o,none⟩) h⟩
set_option maxHeartbeats 2000000 in
theorem a5t (a0 a1:Addr) (N W B L K F O S Lw:Int) (ad:Option Addr) (len cap:Nat) (body:ByteArray) (vs:List Int) (w:World) (hw:Sent w a0 a1) (hi:Ints w ad len vs)
  (hG:okG N W B L=true) (hl:len≤maxLen) (_hbd:body.size≤maxLen) :
  Calls Tryz.prog 207 #[.agg #[.int .i64 N,.int .i64 W,.int .i64 B,.int .i64 L],.agg #[.int .i64 K,.int .i64 F,.int .i64 O,.int .i64 S,.int .i64 Lw,.slice ad len cap,.string body]] w fun e w'=>(∃ v,e=.returned v∧IsF a1 v (rData N W B L K O S Lw vs body.size))∧Below w.heap.size w w':=by
 have HW:Hid (Sent w a0 a1):=hw
 have HI:Hid (Ints w ad len vs):=hi
 have HG:Hid (okG N W B L=true):=hG
 have HLm:Hid (len≤maxLen):=hl
 obtain ⟨h1,h2,h3,h4,h5,h6,h7,h8⟩:=a0u.1 hG
 clear hw hi hG hl
 unfold maxLen at _hbd
 by_cases hO:0≤O∧O<N
 ·have hOd:decide (0≤O∧O<N)=true:=decide_eq_true hO
  by_cases hS:S<1∨L<S
  ·rw [show rData N W B L K O S Lw vs body.size=some (some 6) by unfold rData;rw [if_neg (by simpa using hO),if_pos hS]]
   clear hO
   rcases hS with hS | hS
   all_goals
    go_enter Tryz.func207,Tryz.ntmps207
    go_wp2_with fail
    refine (a3o N W B L O _).mono ?_
    rintro e w' ⟨rfl,hb⟩
    have HB:Hid _:=hb
    have hc1:=(bcell hb).1
    clear hb
    rw [hOd]
    go_wp2_with (go_at_call 209;refine (a0n a0 a1 _ _ _ (((HW.out.alloc _).alloc _).below HB.out)).mono ?_;rintro e w' ⟨rfl,rfl⟩)
    go_ret
    exact ⟨⟨_,rfl,IsF.at a1 _ _⟩,bthen (a09 _ _ _) HB.out⟩
  ·have hS1:1≤S:=by omega
   have hS2:S≤L:=by omega
   by_cases hLw:Lw<0∨S≤Lw∨Lw<S-W
   ·rw [show rData N W B L K O S Lw vs body.size=some (some 8) by unfold rData;rw [if_neg (by simpa using hO),if_neg hS,if_pos hLw]]
    clear hO hS
    rcases hLw with hLw | hLw
    ·skip
     go_enter Tryz.func207,Tryz.ntmps207
     go_wp2_with fail
     refine (a3o N W B L O _).mono ?_
     rintro e w' ⟨rfl,hb⟩
     have HB:Hid _:=hb
     have hc1:=(bcell hb).1
     clear hb
     rw [hOd]
     go_wp2_with (go_at_call 209;refine (a0n a0 a1 _ _ _ (((HW.out.alloc _).alloc _).below HB.out)).mono ?_;rintro e w' ⟨rfl,rfl⟩)
     go_ret
     exact ⟨⟨_,rfl,IsF.at a1 _ _⟩,bthen (a09 _ _ _) HB.out⟩
    ·by_cases hL0:Lw<0
     ·clear hLw
      go_enter Tryz.func207,Tryz.ntmps207
      go_wp2_with fail
      refine (a3o N W B L O _).mono ?_
      rintro e w' ⟨rfl,hb⟩
      have HB:Hid _:=hb
      have hc1:=(bcell hb).1
      clear hb
      rw [hOd]
      go_wp2_with (go_at_call 209;refine (a0n a0 a1 _ _ _ (((HW.out.alloc _).alloc _).below HB.out)).mono ?_;rintro e w' ⟨rfl,rfl⟩)
      go_ret
      exact ⟨⟨_,rfl,IsF.at a1 _ _⟩,bthen (a09 _ _ _) HB.out⟩
     ·rcases hLw with hLw | hLw
      all_goals
       go_enter Tryz.func207,Tryz.ntmps207
       go_wp2_with fail
       refine (a3o N W B L O _).mono ?_
       rintro e w' ⟨rfl,hb⟩
       have HB:Hid _:=hb
       have hc1:=(bcell hb).1
       clear hb
       rw [hOd]
       go_wp2_with (go_at_call 209;refine (a0n a0 a1 _ _ _ (((HW.out.alloc _).alloc _).below HB.out)).mono ?_;rintro e w' ⟨rfl,rfl⟩)
       go_ret
       exact ⟨⟨_,rfl,IsF.at a1 _ _⟩,bthen (a09 _ _ _) HB.out⟩
   ·have hL0:0≤Lw:=by omega
    have hL1:Lw<S:=by omega
    have hL2:S-W≤Lw:=by omega
    have HR:Hid (rData N W B L K O S Lw vs body.size=match rVec N L K O S vs with | some x=>some x | none=>if B<(body.size:Int) then some (some (10+2 * N)) else none):=by
     show rData N W B L K O S Lw vs body.size=_
     unfold rData;rw [if_neg (by simpa using hO),if_neg hS,if_neg hLw]
     cases rVec N L K O S vs<;>rfl
    clear hO hS hLw
    go_enter Tryz.func207,Tryz.ntmps207
    go_wp2_with fail
    refine (a3o N W B L O _).mono ?_
    rintro e w' ⟨rfl,hb⟩
    have HB:Hid _:=hb
    have hc1:=(bcell hb).1
    have hz1:w.heap.size+1<w'.heap.size:=by have:=hb.size;simp at this;omega
    have hz0:w.heap.size<w'.heap.size:=by omega
    clear hb
    rw [hOd]
    go_wp2_with fail
    refine (a4l a0 a1 N W B L K F O S Lw ad len cap body vs _ (((HW.out.alloc _).alloc _).below HB.out) (((HI.out.alloc _).alloc _).below HB.out) HG.out (by omega) HLm.out).mono ?_
    rintro e w2 ⟨⟨v,rfl,hv⟩,hb2⟩
    have HB2:Hid _:=hb2
    have hc2:=(bcell hb2).1
    have hy1:w.heap.size+1<w2.heap.size:=by have:=hb2.size;omega
    have hy0:w.heap.size<w2.heap.size:=by omega
    clear hb2
    cases hr:rVec N L K O S vs with
    | some x =>
     rw [hr] at hv
     have HV:Hid (IsF a1 v (some x)):=hv
     have HRR:Hid (rData N W B L K O S Lw vs body.size=some x):=by have:=HR.out;rw [hr] at this;exact this
     obtain ⟨t,y,rfl⟩:=hv.a1b.2 x rfl
     clear hv hr HR
     go_wp2
     go_ret
     rw [HRR.out]
     exact ⟨⟨_,rfl,HV.out⟩,bthen (bthen (a09 _ _ _) HB.out) HB2.out⟩
    | none =>
     rw [hr] at hv
     obtain rfl:=hv.a1b.1 rfl
     have HRR:Hid (rData N W B L K O S Lw vs body.size=if B<(body.size:Int) then some (some (10+2 * N)) else none):=by have:=HR.out;rw [hr] at this;exact this
     clear hv hr HR
     by_cases hBd:B<(body.size:Int)
     ·have HRQ:Hid (rData N W B L K O S Lw vs body.size=some (some (10+2 * N))):=by have:=HRR.out;rw [if_pos hBd] at this;exact this
      clear HRR
      go_wp2_with fail
      refine (aa7 N W B L h1 h2 _).mono ?_
      rintro e w3 ⟨rfl,hb3⟩
      have HB3:Hid _:=hb3
      clear hb3
      go_wp2_with (go_at_call 209;refine (a0n a0 a1 _ _ _ (((((HW.out.alloc _).alloc _).below HB.out).below HB2.out).below HB3.out)).mono ?_;rintro e w' ⟨rfl,rfl⟩)
      go_ret
      rw [HRQ.out]
      exact ⟨⟨_,rfl,IsF.at a1 _ _⟩,bthen (bthen (bthen (a09 _ _ _) HB.out) HB2.out) HB3.out⟩
     ·have HRQ:Hid (rData N W B L K O S Lw vs body.size=none):=by have:=HRR.out;rw [if_neg hBd] at this;exact this
      clear HRR
      go_wp2
      go_ret
      rw [HRQ.out]
      exact ⟨⟨_,rfl,IsF.nil a1⟩,bthen (bthen (a09 _ _ _) HB.out) HB2.out⟩
 ·have hOd:decide (0≤O∧O<N)=false:=decide_eq_false hO
  rw [show rData N W B L K O S Lw vs body.size=some (some 5) by unfold rData;rw [if_pos hO]]
  clear hO
  go_enter Tryz.func207,Tryz.ntmps207
  go_wp2_with fail
  refine (a3o N W B L O _).mono ?_
  rintro e w' ⟨rfl,hb⟩
  have HB:Hid _:=hb
  have hc1:=(bcell hb).1
  clear hb
  rw [hOd]
  go_wp2_with (go_at_call 209;refine (a0n a0 a1 _ _ _ (((HW.out.alloc _).alloc _).below HB.out)).mono ?_;rintro e w' ⟨rfl,rfl⟩)
  go_ret
  exact ⟨⟨_,rfl,IsF.at a1 _ _⟩,bthen (a09 _ _ _) HB.out⟩
def a1w (N W B L K F O S Lw:Int) (vs:List Int) (body:ByteArray):Option (Option Int):=
 match rKind K with
 | some x=>some x
 | none=>match rFrom N F with
  | some x=>some x
  | none=>if K=2 then a4n N L K O S Lw vs body.toList.isEmpty else rData N W B L K O S Lw vs body.size
set_option maxHeartbeats 2000000 in
theorem a9u (a0 a1:Addr) (N W B L K F O S Lw:Int) (ad:Option Addr) (len cap:Nat) (body:ByteArray) (vs:List Int) (w:World) (hw:Sent w a0 a1) (hi:Ints w ad len vs)
  (hG:okG N W B L=true) (hl:len≤maxLen) (hbd:body.size≤maxLen) :
  Calls Tryz.prog 180 #[.agg #[.int .i64 N,.int .i64 W,.int .i64 B,.int .i64 L],.agg #[.int .i64 K,.int .i64 F,.int .i64 O,.int .i64 S,.int .i64 Lw,.slice ad len cap,.string body]] w fun e w'=>(∃ v,e=.returned v∧IsF a1 v (a1w N W B L K F O S Lw vs body))∧Below w.heap.size w w':=by
 have HW:Hid (Sent w a0 a1):=hw
 have HI:Hid (Ints w ad len vs):=hi
 have HG:Hid (okG N W B L=true):=hG
 have HLm:Hid (len≤maxLen):=hl
 have HBd:Hid (body.size≤maxLen):=hbd
 clear hw hi hG hl hbd
 go_enter Tryz.func180,Tryz.ntmps180
 go_wp2_with fail
 refine (a6n a0 a1 K F O S Lw ad len cap body _ ((HW.out.alloc _).alloc _)).mono ?_
 rintro e w1 ⟨⟨v,rfl,hv⟩,hb⟩
 have HB:Hid _:=hb
 have hc1:=(bcell hb).1
 have hz1:w.heap.size+1<w1.heap.size:=by have:=hb.size;simp at this;omega
 have hz0:w.heap.size<w1.heap.size:=by omega
 clear hb
 cases hr:rKind K with
 | some x =>
  rw [hr] at hv
  have HV:Hid (IsF a1 v (some x)):=hv
  have HRR:Hid (a1w N W B L K F O S Lw vs body=some x):=by show a1w N W B L K F O S Lw vs body=_;unfold a1w;rw [hr]
  obtain ⟨t,y,rfl⟩:=hv.a1b.2 x rfl
  clear hv hr
  go_wp2
  go_ret
  rw [HRR.out]
  exact ⟨⟨_,rfl,HV.out⟩,bthen (a09 _ _ _) HB.out⟩
 | none =>
  rw [hr] at hv
  obtain rfl:=hv.a1b.1 rfl
  have hK:K=1∨K=2:=by
   by_cases h:K=1∨K=2
   ·exact h
   ·unfold rKind at hr;rw [if_neg h] at hr;cases hr
  have HKR:Hid (rKind K=none):=hr
  clear hv hr
  go_wp2_with fail
  refine (a6h a0 a1 N W B L K F O S Lw ad len cap body _ (((HW.out.alloc _).alloc _).below HB.out)).mono ?_
  rintro e w2 ⟨⟨v,rfl,hv⟩,hb2⟩
  have HB2:Hid _:=hb2
  have hc2:=(bcell hb2).1
  have hy1:w.heap.size+1<w2.heap.size:=by have:=hb2.size;omega
  have hy0:w.heap.size<w2.heap.size:=by omega
  clear hb2
  cases hr:rFrom N F with
  | some x =>
   rw [hr] at hv
   have HV:Hid (IsF a1 v (some x)):=hv
   have HRR:Hid (a1w N W B L K F O S Lw vs body=some x):=by show a1w N W B L K F O S Lw vs body=_;unfold a1w;rw [HKR.out,hr]
   obtain ⟨t,y,rfl⟩:=hv.a1b.2 x rfl
   clear hv hr hK
   go_wp2
   go_ret
   rw [HRR.out]
   exact ⟨⟨_,rfl,HV.out⟩,bthen (bthen (a09 _ _ _) HB.out) HB2.out⟩
  | none =>
   rw [hr] at hv
   obtain rfl:=hv.a1b.1 rfl
   have HFR:Hid (rFrom N F=none):=hr
   clear hv hr
   rcases hK with rfl | rfl
   ·have HRR:Hid (a1w N W B L 1 F O S Lw vs body=rData N W B L 1 O S Lw vs body.size):=by show a1w N W B L 1 F O S Lw vs body=_;unfold a1w;rw [HKR.out,HFR.out];rfl
    go_wp2_with fail
    refine (a5t a0 a1 N W B L 1 F O S Lw ad len cap body vs _ ((((HW.out.alloc _).alloc _).below HB.out).below HB2.out) ((((HI.out.alloc _).alloc _).below HB.out).below HB2.out) HG.out HLm.out HBd.out).mono ?_
    rintro e w3 ⟨⟨v,rfl,hv⟩,hb3⟩
    have HB3:Hid _:=hb3
    have HV:Hid _:=hv
    clear hb3 hv
    go_wp2
    go_ret
    rw [HRR.out]
    exact ⟨⟨_,rfl,HV.out⟩,bthen (bthen (bthen (a09 _ _ _) HB.out) HB2.out) HB3.out⟩
   ·have HRR:Hid (a1w N W B L 2 F O S Lw vs body=a4n N L 2 O S Lw vs body.toList.isEmpty):=by show a1w N W B L 2 F O S Lw vs body=_;unfold a1w;rw [HKR.out,HFR.out];rfl
    go_wp2_with fail
    refine (a5e a0 a1 N W B L 2 F O S Lw ad len cap body vs _ ((((HW.out.alloc _).alloc _).below HB.out).below HB2.out) ((((HI.out.alloc _).alloc _).below HB.out).below HB2.out) HG.out HLm.out).mono ?_
    rintro e w3 ⟨⟨v,rfl,hv⟩,hb3⟩
    have HB3:Hid _:=hb3
    have HV:Hid _:=hv
    clear hb3 hv
    go_wp2
    go_ret
    rw [HRR.out]
    exact ⟨⟨_,rfl,HV.out⟩,bthen (bthen (bthen (a09 _ _ _) HB.out) HB2.out) HB3.out⟩
def num (x:Nat):Nat→List UInt8
 | 0=>[]
 | k+1=>UInt8.ofNat (x / 256 ^ k) :: num x k
theorem a0j (x k:Nat):(num x k).length=k:=by
 induction k with
 | zero=>rfl
 | succ k ih=>simp [num,ih]
def a3k (l:List UInt8):List Value:=l.map fun b=>Value.int .u8 b.toNat
theorem a6a (l m:List UInt8):a3k (l++m)=a3k l++a3k m:=by simp [a3k]
def Own (w:World) (base:Nat) (v:Value) (l:List UInt8):Prop:=w.ownsRow base 5 1 v l.length (a3k l)
theorem Own.nil (w:World) (base:Nat):Own w base (.slice none 0 0) []:=World.ownsRow_nil _ _ _ _
theorem Own.alloc {w:World} {base:Nat} {v:Value} {l:List UInt8} (h:Own w base v l) (o:Obj):Own (w.alloc o) base v l:=World.ownsRow.alloc h o
theorem Own.block {w:World} {base:Nat} {v:Value} {l:List UInt8} (h:Own w base v l):∀ k,v.ownBlock=some k→base≤k:=by
 intro k hk
 rcases h.2 with ⟨rfl,_⟩ | ⟨g,cap,cur,rfl,hg,_⟩
 ·cases hk
 ·cases hk;exact hg
theorem Tryz.infoByte:(Tryz.prog.info? 5).map (fun i=>(i.zero,i.size,i.bytes))=some (some (.int .u8 0),1,1):=by kernel_rfl
theorem byte_of {x j:Nat}:((x:Int) / 2 ^ (8 * j)) % 256=((UInt8.ofNat (x / 256 ^ j)).toNat:Int):=by
 rw [UInt8.toNat_ofNat',show (256:Nat) ^ j=2 ^ (8 * j) by rw [Nat.pow_mul]]
 simp
theorem Own.snoc {w w':World} {base:Nat} {v v':Value} {l:List UInt8} (m:List UInt8) (cs:List Value) (hcs:cs=a3k m) (n:Nat) (hn:n=m.length) (o:Obj) (_h:Own w base v l) (h':w'.ownsRow base 5 1 v' (l.length+n) (a3k l++cs)) (hg:(w.alloc o).grownBy w' v.ownBlock) (hb:base≤w.heap.size):Own w' base v' (l++m)∧Below base w w':=by
 refine ⟨?_,((Below.refl _ _).alloc hb o).grown hg (by simp;omega) _h.block⟩
 subst hcs hn
 unfold Own
 rw [a6a,List.length_append]
 exact h'
set_option maxHeartbeats 2000000 in
theorem a7s (base:Nat) (v:Value) (l:List UInt8) (x k:Nat) (w:World) (hown:Own w base v l) (hbase:base≤w.heap.size) (_hx:x<4294967296) (hk:k≤4) (hl:l.length≤1000) :
  Calls Tryz.prog 182 #[v,.int .i64 x,.int .i64 k] w fun e w'=>∃ v',e=.returned v'∧Own w' base v' (l++num x k)∧Below base w w':=by
 have HO:Hid (Own w base v l):=hown
 clear hown
 have hk0:(k:Int)≤4:=by omega
 obtain ⟨i0,hi,hz0,hz1,hz2⟩:=info_parts Tryz.infoByte
 go_enter Tryz.func182,Tryz.ntmps182
 go_wp2
 go_loopw [0,2] (fun u c wr=>∃ (j:Nat) (cur:List UInt8),j≤k∧c=.int .i64 j∧Own wr base u cur∧l++num x k=cur++num x j∧Below base w wr) (fun _ c _=>(intOf c).toNat)
 case atStart=>exact ⟨k,l,Nat.le_refl _,rfl,HO.out,rfl,Below.refl _ _⟩
 case round =>
  obtain ⟨j,cur,hj,rfl,hcur,heq,hbel⟩:=hrel
  have HC:Hid (Own wr base _ cur):=hcur
  have HE:Hid (l++num x k=cur++num x j):=heq
  have HB:Hid (Below base w wr):=hbel
  have hcl:cur.length≤1004:=by have:=congrArg List.length heq;simp [a0j] at this;omega
  clear hcur heq hbel
  by_cases hj0:0<j
  ·obtain ⟨i,rfl⟩:∃ i,j=i+1:=⟨j-1,by omega⟩
   have hbw:base≤wr.heap.size:=Nat.le_trans hbase HB.out.size
   go_wp2_with (at_builtin;refine wpList_append_own _ rfl _ _ 241 rfl base 5 i0 (.int .u8 0) 1 1 Tryz.underlying241 hi hz0 hz1 hz2 rfl (by decide) _ _ _ rfl (HC.out.alloc _) ⟨wr.heap.size,0,none⟩ 1 1 [.int .u8 ((x:Int) / 2 ^ (8 * i) % 256)] rfl rfl ?c1 ?c2 ?c3 ?c4 ?c5 ?_)
   case c1 =>
    intro q u hq
    match q,hq with
    | 0,hq=>simp at hq;subst hq;simp [Addr.add]
   case c2=>intro u hu;simp at hu;subst hu;rfl
   case c3=>unfold maxLen;omega
   case c4=>omega
   case c5=>simp;omega
   ·intro v' w1 hown' hgrow _
    have R:=Own.snoc [UInt8.ofNat (x / 256 ^ i)] _ (by rw [byte_of];rfl) 1 rfl _ HC.out hown' hgrow hbw
    have HR1:Hid _:=R.1
    have HR2:Hid _:=R.2
    have HE2:Hid (l++num x k=(cur++[UInt8.ofNat (x / 256 ^ i)])++num x i):=by have:=HE.out;show l++num x k=_;rw [this];simp [num]
    clear hown' hgrow R
    go_wp2
    go_roundw
    case rel=>exact ⟨i,_,by omega,rfl,HR1.out,HE2.out,HB.out.trans HR2.out⟩
    case measure=>simp [intOf]
  ·go_wp2
   go_ret
   refine ⟨_,rfl,?_,HB.out⟩
   have h0:j=0:=by omega
   subst h0
   have:=HE.out
   rw [this]
   simpa [num] using HC.out
def txt (l:List UInt8):ByteArray:=⟨l.toArray⟩
theorem a2d (l:List UInt8):(txt l).size=l.length:=by show l.toArray.size=_;simp
theorem a6b (l:List UInt8):(txt l).data.toList=l:=by simp [txt]
theorem a0o (l m:List UInt8):txt l++txt m=txt (l++m):=by
 apply ByteArray.ext
 show (txt l++txt m).data=_
 rw [ByteArray.data_append]
 simp [txt]
theorem Own.string {w:World} {base:Nat} {v:Value} {l:List UInt8} (h:Own w base v l):(convert 241 9 v).run Tryz.prog w=.ok (.string (txt l)) w:=by
 have hl:(a3k l).length=l.length:=by simp [a3k]
 rcases h.2 with ⟨rfl,hn⟩ | ⟨g,cap,cur,rfl,hg,hh,hc⟩
 ·have:l=[]:=List.eq_nil_of_length_eq_zero hn
  subst this
  exact run_convert_bytes_nil w 241 5 Tryz.underlying241 Tryz.underlying5 0 0 9 Tryz.underlying9
 ·refine run_convert_bytes_back w 241 9 5 ⟨g,0,none⟩ cap l Tryz.underlying241 Tryz.underlying5 Tryz.underlying9 fun j hj=>?_
  have:=World.ownsRow.cells h (g:=g) rfl j (.int .u8 (l[j].toNat:Int)) (by simp [a3k,hj])
  exact this
theorem b5l (w:World) (y:Nat):(convert 241 9 (.slice (some ⟨w.heap.size,0,none⟩) 1 1)).run Tryz.prog (w.alloc (.cells #[.int .u8 ((y:Int) % 256)] 5))=.ok (.string (txt [UInt8.ofNat y])) (w.alloc (.cells #[.int .u8 ((y:Int) % 256)] 5)):=by
 refine run_convert_bytes_back _ 241 9 5 ⟨w.heap.size,0,none⟩ 1 [UInt8.ofNat y] Tryz.underlying241 Tryz.underlying5 Tryz.underlying9 fun j hj=>?_
 have:j=0:=by simpa using hj
 subst this
 simp [Addr.add]
set_option maxHeartbeats 2000000 in
theorem a3w (x n:Nat) (w:World) (hx:x<4611686018427387904) (hn:n≤8) :
  Calls Tryz.prog 178 #[.int .i64 x,.int .i64 n] w fun e w'=>e=.returned (.string (txt (num x n)))∧Below w.heap.size w w':=by
 have hn0:(n:Int)≤8:=by omega
 go_enter Tryz.func178,Tryz.ntmps178
 go_wp2
 go_loopw [0,5,6] (fun v s c wr=>∃ i:Nat,i≤n∧c=.int .i64 i∧v=.int .i64 ((x / 256 ^ i:Nat):Int)∧s=.string (txt (num x i))∧Below w.heap.size w wr) (fun _ _ c _=>n-(intOf c).toNat)
 case atStart=>exact ⟨0,Nat.zero_le _,rfl,by simp,rfl,Below.refl _ _⟩
 case round =>
  obtain ⟨i,hi,rfl,rfl,rfl,hbel⟩:=hrel
  have HB:Hid (Below w.heap.size w wr):=hbel
  have hsl:(txt (num x i)).size=i:=by show (num x i).toArray.size=_;simp [a0j]
  have hyl:x / 256 ^ i≤x:=Nat.div_le_self _ _
  have HY:Hid (x / 256 ^ (i+1)=x / 256 ^ i / 256):=by show x / 256 ^ (i+1)=_;rw [Nat.pow_succ,Nat.div_div_eq_div_mul]
  have HT:Hid (num x (i+1)=UInt8.ofNat (x / 256 ^ i) :: num x i):=rfl
  generalize x / 256 ^ i=y at *
  generalize hg:txt (num x i)=t at *
  have HG:Hid (txt (num x i)=t):=hg
  clear hbel hg
  by_cases hin:i<n
  ·have hcv:=b5l wr y
   have hs1:(txt [UInt8.ofNat y]).size=1:=rfl
   go_wp2
   go_roundw
   case rel=>exact ⟨i+1,by omega,by go_num,a3u (by rw [HY.out];omega),by rw [HT.out,←HG.out,a0o];rfl,HB.out.alloc HB.out.size _⟩
   case measure=>simp [intOf];omega
  ·go_wp2
   go_ret
   have:i=n:=by omega
   subst this
   rw [HG.out]
   exact ⟨rfl,HB.out⟩
end Go.Proofs.YtabecbjfamphbaaGreatDoor
