/- A part of the proof. -/
import Derived.Test.YtabecbjfamphbaaGreatDoorM04
namespace Go.Proofs.YtabecbjfamphbaaGreatDoor
open Go.RowKit Go.Stop Go.Extern
set_option maxRecDepth 100000
theorem b83 (K:Int):5≤vAt K∧vAt K≤10:=by unfold vAt;split<;>omega
theorem b54 {N L K O S:Int} {vs:List Int} (h:¬ (vs.length:Int)=N):rVec N L K O S vs=some none:=if_neg h
theorem b79 {N L K O S:Int} {vs:List Int} {k:Nat} (h:(vs.length:Int)=N) (hk:k<vs.length) (hb:vbad L K O S k (vs.getD k 0)=true) (hg:∀ i,i<k→vbad L K O S i (vs.getD i 0)=false) :
  rVec N L K O S vs=some (some (vAt K+2 * (k:Int))):=by
 unfold rVec a4e
 rw [if_pos h,af3 hk hb hg];rfl
theorem a4g {N L K O S:Int} {vs:List Int} (h:(vs.length:Int)=N) (hg:∀ i,i<vs.length→vbad L K O S i (vs.getD i 0)=false):rVec N L K O S vs=none:=by
 unfold rVec a4e
 rw [if_pos h,ah7 hg];rfl
theorem b0a {L K O S:Int} {vs:List Int} {k:Nat} (hg:∀ i,i<k→vbad L K O S i (vs.getD i 0)=false) (hk:vbad L K O S k (vs.getD k 0)=false):∀ i,i<k+1→vbad L K O S i (vs.getD i 0)=false:=by
 intro i hi
 by_cases h:i=k
 ·subst h;exact hk
 ·exact hg i (by omega)
set_option maxHeartbeats 2000000 in
theorem a4l (a0 a1:Addr) (N W B L K F O S Lw:Int) (ad:Option Addr) (len cap:Nat) (body:ByteArray) (vs:List Int) (w:World) (hw:Sent w a0 a1) (hi:Ints w ad len vs)
  (hG:okG N W B L=true) (hS:0≤S∧S≤65535) (hl:len≤maxLen) :
  Calls Tryz.prog 228 #[.agg #[.int .i64 N,.int .i64 W,.int .i64 B,.int .i64 L],.agg #[.int .i64 K,.int .i64 F,.int .i64 O,.int .i64 S,.int .i64 Lw,.slice ad len cap,.string body]] w fun e w'=>(∃ v,e=.returned v∧IsF a1 v (rVec N L K O S vs))∧Below w.heap.size w w':=by
 have HW:Hid (Sent w a0 a1):=hw
 have HI:Hid (Ints w ad len vs):=hi
 have hlen:vs.length=len:=hi.len
 have HL:Hid (vs.length=len):=hlen
 clear hw hi hlen
 obtain ⟨h1,h2,h3,h4,h5,h6,h7,h8⟩:=a0u.1 hG
 obtain ⟨hS1,hS2⟩:=hS
 clear hG
 unfold maxLen at hl
 by_cases hN:(len:Int)=N
 ·have hNb:((len:Int) != N)=false:=by simp [hN]
  have HN:Hid ((vs.length:Int)=N):=by rw [HL.out];exact hN
  have hlen8:len≤8:=by omega
  clear hN
  have hv:=b83 K
  generalize hva:vAt K=va at *
  have HVA:Hid (vAt K=va):=hva
  clear hva
  go_enter Tryz.func228,Tryz.ntmps228
  go_wp2
  go_loop [18] (fun i=>∃ k:Nat,k≤len∧i=.int .i64 k∧∀ j,j<k→vbad L K O S j (vs.getD j 0)=false) (fun i=>len-(intOf i).toNat)
  case atStart=>exact ⟨0,Nat.zero_le _,rfl,fun j hj=>absurd hj (Nat.not_lt_zero _)⟩
  case round =>
   obtain ⟨k,hk,rfl,hgood⟩:=hrel
   have HGd:Hid (∀ j,j<k→vbad L K O S j (vs.getD j 0)=false):=hgood
   clear hgood
   by_cases hlt:k<len
   ·obtain ⟨b,off,rfl,hbl,hcell⟩:=HI.out.cell k hlt
    obtain ⟨x,hx⟩:∃ x,x=vs.getD k 0:=⟨_,rfl⟩
    rw [←hx] at hcell
    have HX:Hid (x=vs.getD k 0):=hx
    clear hx
    have hc2:∀ o1 o2,((w.alloc o1).alloc o2).cell? ⟨b,off+k,none⟩=some (.int .i64 x):=fun o1 o2=>((a09 w o1 o2).cell (p:=⟨b,off+k,none⟩) hbl).trans hcell
    clear hcell
    by_cases hbad:vbad L K O S k x=true
    ·have HR:Hid (rVec N L K O S vs=some (some (va+2 * (k:Int)))):=by
      have:=b79 (N:=N) HN.out (by rw [HL.out];exact hlt) (by rw [←HX.out];exact hbad) HGd.out
      rw [HVA.out] at this;exact this
     by_cases hc:x<0∨L<x
     ·rcases hc with hc | hc
      all_goals
       clear hbad
       go_wp2_with (first|(go_at_call 237;refine (a2o K _).mono ?_;rw [HVA.out];rintro e w' ⟨rfl,rfl⟩)|(go_at_call 209;refine (a0n a0 a1 _ _ _ ((HW.out.alloc _).alloc _)).mono ?_;rintro e w' ⟨rfl,rfl⟩))
       go_ret
       refine ⟨⟨_,rfl,?_⟩,a09 _ _ _⟩
       rw [HR.out]
       exact IsF.at a1 _ _
     ·have hK:K=1∧(k:Int)=O∧x≠S-1:=by
       have:=of_decide_eq_true hbad
       omega
      obtain ⟨rfl,rfl,hne⟩:=hK
      have hneb:(x != S-1)=true:=bne_iff_ne.2 hne
      clear hbad hne
      have hc1:0≤x:=by omega
      have hc3:x≤L:=by omega
      clear hc
      go_wp2_with (first|(go_at_call 237;refine (a2o _ _).mono ?_;rw [HVA.out];rintro e w' ⟨rfl,rfl⟩)|(go_at_call 209;refine (a0n a0 a1 _ _ _ ((HW.out.alloc _).alloc _)).mono ?_;rintro e w' ⟨rfl,rfl⟩))
      go_ret
      refine ⟨⟨_,rfl,?_⟩,a09 _ _ _⟩
      rw [HR.out]
      exact IsF.at a1 _ _
    ·have hbf:vbad L K O S k x=false:=by simpa using hbad
     have hno:=of_decide_eq_false hbf
     have HGn:Hid (∀ j,j<k+1→vbad L K O S j (vs.getD j 0)=false):=b0a HGd.out (by rw [←HX.out];exact hbf)
     have hc1:0≤x:=by omega
     have hc3:x≤L:=by omega
     clear hbad hbf
     by_cases hK:K=1
     ·subst hK
      by_cases hO:(k:Int)=O
      ·subst hO
       have hneb:(x != S-1)=false:=bne_eq_false_iff_eq.2 (by omega)
       clear hno
       go_wp2_with (first|(go_at_call 237;refine (a2o _ _).mono ?_;rw [HVA.out];rintro e w' ⟨rfl,rfl⟩))
       go_round
       case rel=>exact ⟨k+1,by omega,by go_num,HGn.out⟩
       case measure=>simp [intOf];omega
      ·have hOb:((k:Int) == O)=false:=beq_eq_false_iff_ne.2 hO
       clear hno hO
       go_wp2_with (first|(go_at_call 237;refine (a2o _ _).mono ?_;rw [HVA.out];rintro e w' ⟨rfl,rfl⟩))
       go_round
       case rel=>exact ⟨k+1,by omega,by go_num,HGn.out⟩
       case measure=>simp [intOf];omega
     ·have hKb:(K == 1)=false:=beq_eq_false_iff_ne.2 hK
      clear hno hK
      go_wp2_with (first|(go_at_call 237;refine (a2o _ _).mono ?_;rw [HVA.out];rintro e w' ⟨rfl,rfl⟩))
      go_round
      case rel=>exact ⟨k+1,by omega,by go_num,HGn.out⟩
      case measure=>simp [intOf];omega
   ·go_wp2
    go_ret
    refine ⟨⟨_,rfl,?_⟩,a09 _ _ _⟩
    rw [a4g HN.out (fun i hi=>HGd.out i (by rw [HL.out] at hi;omega))]
    exact IsF.nil a1
 ·have hNb:((len:Int) != N)=true:=bne_iff_ne.2 hN
  rw [b54 (by rw [HL.out];exact hN)]
  clear hN
  go_enter Tryz.func228,Tryz.ntmps228
  go_wp2_with (go_at_call 227;refine (a1j a0 a1 _ _ ((HW.out.alloc _).alloc _)).mono ?_;rintro e w' ⟨rfl,rfl⟩)
  go_ret
  exact ⟨⟨_,rfl,IsF.why a1 _⟩,a09 _ _ _⟩
end Go.Proofs.YtabecbjfamphbaaGreatDoor
