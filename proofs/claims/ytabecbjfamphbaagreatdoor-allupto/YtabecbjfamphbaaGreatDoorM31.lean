/- A part of the proof. -/
import Derived.Test.YtabecbjfamphbaaGreatDoorM25
namespace Go.Proofs.YtabecbjfamphbaaGreatDoor
open Go.RowKit Go.Stop Go.Extern
set_option maxRecDepth 100000
set_option maxHeartbeats 2000000
def IsPl (v:Value) (p:Int):Prop:=
 (v=.nilIface∧p=0)∨(∃ a s,v=.iface 208 (.agg #[.string s,.iface 298 (.pointer (some a))])∧p=0)∨(∃ t u,v=.iface 247 (.agg #[.int .i64 p,.iface t u]))
theorem b3x (v:Value) (p:Int) (h:IsPl v p) (w:World) (hT:ErrT w):Calls Tryz.prog 141 #[v] w fun e w'=>e=.returned (.int .i64 p)∧Below w.heap.size w w':=by
 rcases h with ⟨rfl,rfl⟩ | ⟨a,s,rfl,rfl⟩ | ⟨t,u,rfl⟩
 ·exact b28 w
 ·exact b1l a s w hT
 ·exact b5j p t u w hT
def placeOf:Option (Option Int)→Int
 | some (some p)=>p
 | _=>0
theorem IsF.pl {a1:Addr} {v:Value} {r:Option (Option Int)} (h:IsF a1 v r):IsPl v (placeOf r):=by
 rcases h.how with ⟨rfl,rfl⟩ | ⟨rfl,s,rfl⟩ | ⟨p,s,rfl,rfl⟩
 ·exact Or.inl ⟨rfl,rfl⟩
 ·exact Or.inr (Or.inl ⟨_,_,rfl,rfl⟩)
 ·exact Or.inr (Or.inr ⟨_,_,rfl⟩)
theorem Got.keep {w w':World} {base base' n:Nat} {K F O S Lw:Int} {vs:List Int} {body:ByteArray} {fv:Value} (h:Got w base n K F O S Lw vs body fv) (hk:∀ g zs,base≤g→RowI w g zs→RowI w' g zs) (hb:base'≤base):Got w' base' n K F O S Lw vs body fv:=by
 obtain ⟨⟨g,hg,hf,hr⟩⟩:=h
 exact ⟨⟨g,Nat.le_trans hb hg,hf,hk g _ hg hr⟩⟩
theorem Read.keep {w w':World} {base base' n:Nat} {s:ByteArray} {fv:Value} (h:Read w base n s fv) (hk:∀ g zs,base≤g→RowI w g zs→RowI w' g zs) (hb:base'≤base):Read w' base' n s fv:=by
 rcases h with ⟨h1,h2⟩ | ⟨h1,h2⟩
 ·exact Or.inl ⟨h1,h2.keep hk hb⟩
 ·exact Or.inr ⟨h1,h2.keep hk hb⟩
theorem ab5 (a0 a1:Addr) (N W B L:Int) (s:ByteArray) (T:Prop) (n:Nat) (p k:Int) (w:World) (hw:Sent w a0 a1) (hT:ErrT w)
  (hD:∀ x,Sent x a0 a1→Calls Tryz.prog 140 #[.agg #[.int .i64 N,.int .i64 W,.int .i64 B,.int .i64 L],.string s] x
   fun e w'=>(∃ fv v,e=.returned (.tuple #[fv,v])∧FrV fv∧IsErr a0 a1 v k∧IsPl v p∧(¬ T→fv=fz)∧(T→Read w' x.heap.size n s fv))∧Below x.heap.size x w') :
  Calls Tryz.prog 85 #[.agg #[.int .i64 N,.int .i64 W,.int .i64 B,.int .i64 L],.string s] w
   fun e w'=>(∃ fv,e=.returned (.tuple #[fv,.int .i64 p,.int .i64 k])∧(¬ T→fv=fz)∧(T→Read w' w.heap.size n s fv))∧Below w.heap.size w w':=by
 have HW:Hid (Sent w a0 a1):=hw
 have HT:Hid (ErrT w):=hT
 have HX:Hid _:=hD
 clear hw hT hD
 have HP0:Hid _:=a2y w N W B L 26 45
 go_enter Tryz.func85,Tryz.ntmps85
 go_wp2_with fail
 refine (HX.out _ ((HW.out.alloc _).alloc _)).mono ?_
 rintro e w1 ⟨⟨fv,v,rfl,hfv,herr,hpl,hno,hyes⟩,hb⟩
 obtain ⟨K',F',O',S',L',ad,len,cap,bd,rfl⟩:=hfv
 have HErr:Hid (IsErr a0 a1 v k):=herr
 have HPl:Hid (IsPl v p):=hpl
 have HNo:Hid _:=hno
 have HYes:Hid _:=hyes
 have HA1:Hid (Below w.heap.size w w1):=bthen (a09 _ _ _) hb
 have HS1:Hid (Slots (w.heap.size+1) w1):=(HP0.out.below hb HP0.out.z).s
 have hz1:w.heap.size+1<w1.heap.size:=(HP0.out.below hb HP0.out.z).z
 clear herr hpl hno hyes hb
 go_wp2_with fail
 have hal:Below w1.heap.size w1 (w1.alloc (.cells #[.int .i64 K',.int .i64 F',.int .i64 O',.int .i64 S',.int .i64 L',.slice ad len cap,.string bd] 45)):=(Below.refl _ _).alloc (Nat.le_refl _) _
 have hsev:=a05 w1 (.int .i64 K') (.int .i64 F') (.int .i64 O') (.int .i64 S') (.int .i64 L') (.slice ad len cap) (.string bd) 45
 have hbig:w1.heap.size<(w1.alloc (.cells #[.int .i64 K',.int .i64 F',.int .i64 O',.int .i64 S',.int .i64 L',.slice ad len cap,.string bd] 45)).heap.size:=by simp
 generalize w1.alloc (.cells #[.int .i64 K',.int .i64 F',.int .i64 O',.int .i64 S',.int .i64 L',.slice ad len cap,.string bd] 45)=X at *
 have HAL:Hid (Below w1.heap.size w1 X):=hal
 have HAX:Hid (Below w.heap.size w X):=bthen HA1.out hal
 have HSX:Hid (Slots (w.heap.size+1) X):=HS1.out.below hal hz1
 have HQX:Hid (Seven w1.heap.size X _ _ _ _ _ _ _):=hsev
 have hxz:w.heap.size+1<X.heap.size:=by omega
 obtain ⟨q0,q1,q2,q3,q4,q5,q6,qz⟩:=hsev
 clear hal
 have HSXd:Hid (Slots (w.heap.size+1) X.drew):=HSX.out.below (c:=X.heap.size) (Below.refl _ _).drew hxz
 have HQXd:Hid (Seven w1.heap.size X.drew _ _ _ _ _ _ _):=HQX.out.below (c:=X.heap.size) (Below.refl _ _).drew qz
 go_region_with (first
  | (go_at_call 141;refine (b3x v p HPl.out X.drew (HT.out.below HAX.out.drew)).mono ?_;rintro e w2 ⟨rfl,hb2⟩;have HA2:Hid (Below w.heap.size w w2):=bthen HAX.out.drew hb2;have HS2:Hid (Slots (w.heap.size+1) w2):=HSXd.out.below hb2 HSXd.out.z;have HQ2:Hid _:=HQXd.out.below hb2 HQXd.out.z;have hQ2:=HQ2.out;obtain ⟨p0,p1,p2,p3,p4,p5,p6,pz⟩:=hQ2;have HB2:Hid _:=hb2;clear hb2)
  | (go_at_call 53;refine (a6z a0 a1 v k HErr.out _ (HW.out.below HA2.out)).mono ?_;rintro e w3 ⟨rfl,hb3⟩;have HA3:Hid (Below w.heap.size w w3):=bthen HA2.out hb3;have HS3:Hid (Slots (w.heap.size+1) w3):=HS2.out.below hb3 HS2.out.z;have HQ3:Hid _:=HQ2.out.below hb3 HQ2.out.z;have hQ3:=HQ3.out;obtain ⟨o0,o1,o2,o3,o4,o5,o6,oz⟩:=hQ3;have HB3:Hid _:=hb3;have fr3:=HS3.out.f;obtain ⟨u0,hu0⟩:=HS3.out.r 0 (by omega);obtain ⟨u1,hu1⟩:=HS3.out.r 1 (by omega);obtain ⟨u2,hu2⟩:=HS3.out.r 2 (by omega);obtain ⟨u3,hu3⟩:=HS3.out.r 3 (by omega);obtain ⟨u4,hu4⟩:=HS3.out.r 4 (by omega);obtain ⟨u5,hu5⟩:=HS3.out.r 5 (by omega);obtain ⟨u6,hu6⟩:=HS3.out.r 6 (by omega);clear hb3))
 all_goals
  go_wp2
  have hB13:Below w1.heap.size w1 w3:=bthen (bthen HAL.out.drew HB2.out) HB3.out
  obtain ⟨r0,r1,r2,r3,r4,r5,r6⟩:=Slots.seven HS3.out (.int .i64 K') (.int .i64 F') (.int .i64 O') (.int .i64 S') (.int .i64 L') (.slice ad len cap) (.string bd) _ rfl
  refine bodyPost_ret (v:=.tuple #[.agg #[.int .i64 K',.int .i64 F',.int .i64 O',.int .i64 S',.int .i64 L',.slice ad len cap,.string bd],.int .i64 p,.int .i64 k]) (by simp [results,Tryz.results85,go_sem,r0,r1,r2,r3,r4,r5,r6]) rfl ⟨⟨_,rfl,HNo.out,fun h=>(HYes.out h).keep (fun g zs hg hr=>(hr.below hB13 hr.lt).set7 (by simp at hg;omega) _ _ _ _ _ _ _) (by simp;omega)⟩,a0b HA3.out (by omega) _ _ _ _ _ _ _⟩
theorem b0o (a0 a1:Addr) (N W B L:Int) (s:ByteArray) (w:World) (hw:Sent w a0 a1) (hT:ErrT w) (hG:okG N W B L=false) :
  Calls Tryz.prog 85 #[.agg #[.int .i64 N,.int .i64 W,.int .i64 B,.int .i64 L],.string s] w fun e w'=>e=.returned (.tuple #[fz,.int .i64 0,.int .i64 1])∧Below w.heap.size w w':=by
 refine (ab5 a0 a1 N W B L s False 0 0 1 w hw hT fun x hx=>(af1 a0 a1 N W B L s x hx hG).mono ?_).mono ?_
 ·rintro e w' ⟨⟨t,rfl⟩,hb⟩
  exact ⟨⟨_,_,rfl,⟨_,_,_,_,_,_,_,_,_,rfl⟩,⟨Or.inr (Or.inl ⟨_,rfl,rfl⟩)⟩,Or.inr (Or.inl ⟨_,_,rfl,rfl⟩),fun _=>rfl,fun h=>h.elim⟩,hb⟩
 ·rintro e w' ⟨⟨fv,rfl,h1,-⟩,hb⟩
  rw [h1 (fun h=>h)]
  exact ⟨rfl,hb⟩
theorem a5m (a0 a1:Addr) (n:Nat) (W B L:Int) (s:ByteArray) (w:World) (hw:Sent w a0 a1) (hT:ErrT w) (hG:okG n W B L=true) (hs:s.size≤maxLen) :
  Calls Tryz.prog 85 #[.agg #[.int .i64 (n:Int),.int .i64 W,.int .i64 B,.int .i64 L],.string s] w
   fun e w'=>(∃ fv,e=.returned (.tuple #[fv,.int .i64 (placeOf (rAll n W B L s)),.int .i64 (if rAll n W B L s=none then 0 else 5)])∧(¬ rAll n W B L s=none→fv=fz)∧(rAll n W B L s=none→Read w' w.heap.size n s fv))∧Below w.heap.size w w':=by
 refine ab5 a0 a1 n W B L s (rAll n W B L s=none) n _ _ w hw hT fun x hx=>(a4x a0 a1 n W B L s x hx hG hs).mono ?_
 rintro e w' ⟨⟨fv,v,rfl,hfv,hv,hno,hyes⟩,hb⟩
 refine ⟨⟨fv,v,rfl,hfv,hv.err,hv.pl,?_,hyes⟩,hb⟩
 intro h
 cases hr:rAll n W B L s with
 | none=>exact absurd hr h
 | some x=>exact hno x hr
def outR (n:Nat) (s:ByteArray):Int:=
 if (s.size:Int)<9+2 * n then s.size else if marked s=false then 0 else if val s (s.size-4) 4≠a2c s then (s.size:Int)-4 else
 if ¬ (byt s 2=1∨byt s 2=2) then 2 else if byt s 3≠n then 3 else if n≤byt s 4 then 4 else
 if byt s 2=2∧s.size≠9+2 * n then s.size else if byt s 2=1∧s.size<15+2 * n then s.size else -1
theorem b7o {s:ByteArray} (h0:0<s.size) (h1:1<s.size):marked s=decide (s[0].toNat=104∧s[1].toNat=115):=by
 unfold marked
 rw [a1m s 0 h0,a1m s 1 h1]
theorem a8b (n:Nat) (W B L:Int) (s:ByteArray) (w:World) (h1:2≤n) (h2:n≤8) (hs:s.size≤maxLen) :
  Calls Tryz.prog 199 #[.agg #[.int .i64 (n:Int),.int .i64 W,.int .i64 B,.int .i64 L],.string s] w fun e w'=>e=.returned (.int .i64 (outR n s))∧Below w.heap.size w w':=by
 have HS:Hid (s.size≤maxLen):=hs
 unfold maxLen at hs
 by_cases c1:(s.size:Int)<9+2 * n
 ·have HR:Hid (outR n s=s.size):=if_pos c1
  go_enter Tryz.func199,Tryz.ntmps199
  go_wp2_with fail
  go_ret
  rw [HR.out]
  exact ⟨rfl,a00 _ _⟩
 have hi0:0<s.size:=by omega
 have hi0i:(0:Int)<s.size:=by omega
 have H0:Hid (byt s 0=s[0].toNat):=a1m s 0 hi0
 have hb0:=s[0].toNat_lt
 have hi1:1<s.size:=by omega
 have hi1i:(1:Int)<s.size:=by omega
 have H1:Hid (byt s 1=s[1].toNat):=a1m s 1 hi1
 have hb1:=s[1].toNat_lt
 have hi2:2<s.size:=by omega
 have hi2i:(2:Int)<s.size:=by omega
 have H2:Hid (byt s 2=s[2].toNat):=a1m s 2 hi2
 have hb2:=s[2].toNat_lt
 have hi3:3<s.size:=by omega
 have hi3i:(3:Int)<s.size:=by omega
 have H3:Hid (byt s 3=s[3].toNat):=a1m s 3 hi3
 have hb3:=s[3].toNat_lt
 have hi4:4<s.size:=by omega
 have hi4i:(4:Int)<s.size:=by omega
 have H4:Hid (byt s 4=s[4].toNat):=a1m s 4 hi4
 have hb4:=s[4].toNat_lt
 have hi:(4:Int)≤(s.size:Int):=by omega
 have HX:Hid (∀ w,Calls Tryz.prog 160 #[.string (s.extract 0 (s.size-4))] w fun e w'=>e=.returned (.int .i64 (a2c s))∧w'=w):=fun w=>by
  have:=a4w (s.extract 0 (s.size-4)) w (by rw [ByteArray.size_extract];have:=HS.out;omega)
  rw [a7p] at this
  exact this
 have HN:Hid (∀ w,Calls Tryz.prog 201 #[.string s,.int .i64 ((s.size:Int)-4),.int .i64 4] w fun e w'=>e=.returned (.int .i64 (val s (s.size-4) 4))∧w'=w):=fun w=>a19 s ((s.size:Int)-4) 4 (s.size-4) 4 (by omega) rfl w HS.out (by omega) (by omega)
 have HM:Hid (marked s=decide (s[0].toNat=104∧s[1].toNat=115)):=b7o hi0 hi1
 by_cases m0:¬ s[0].toNat=104
 ·have HR:Hid (outR n s=0):=by show outR n s=0;unfold outR;rw [if_neg c1,if_pos (by rw [HM.out,decide_eq_false (by omega)])]
  have m0b:((s[0].toNat:Int) != 104)=true:=bne_iff_ne.2 (by omega)
  clear m0
  go_enter Tryz.func199,Tryz.ntmps199
  go_wp2_with (first|(go_at_call 160;refine (HX.out _).mono ?_;rintro e w' ⟨rfl,rfl⟩)|(go_at_call 201;refine (HN.out _).mono ?_;rintro e w' ⟨rfl,rfl⟩))
  go_ret
  rw [HR.out]
  exact ⟨rfl,a00 _ _⟩
 have m0b:((s[0].toNat:Int) != 104)=false:=by simp;omega
 by_cases m1:¬ s[1].toNat=115
 ·have HR:Hid (outR n s=0):=by show outR n s=0;unfold outR;rw [if_neg c1,if_pos (by rw [HM.out,decide_eq_false (by omega)])]
  have m1b:((s[1].toNat:Int) != 115)=true:=bne_iff_ne.2 (by omega)
  clear m0 m1
  go_enter Tryz.func199,Tryz.ntmps199
  go_wp2_with (first|(go_at_call 160;refine (HX.out _).mono ?_;rintro e w' ⟨rfl,rfl⟩)|(go_at_call 201;refine (HN.out _).mono ?_;rintro e w' ⟨rfl,rfl⟩))
  go_ret
  rw [HR.out]
  exact ⟨rfl,a00 _ _⟩
 have m1b:((s[1].toNat:Int) != 115)=false:=by simp;omega
 have HMt:Hid (¬ marked s=false):=by show ¬ marked s=false;rw [HM.out,decide_eq_true (by omega)];simp
 clear m0 m1
 generalize hv4:val s (s.size-4) 4=x4 at *
 generalize hsa:a2c s=y4 at *
 have HV4:Hid _:=hv4
 have HSA:Hid _:=hsa
 clear hv4 hsa
 by_cases c3:x4≠y4
 ·have HR:Hid (outR n s=(s.size:Int)-4):=by show outR n s=(s.size:Int)-4;unfold outR;rw [if_neg c1,if_neg HMt.out,HV4.out,HSA.out,if_pos c3]
  have c3b:((x4:Int) != (y4:Int))=true:=bne_iff_ne.2 (by omega)
  clear c3
  go_enter Tryz.func199,Tryz.ntmps199
  go_wp2_with (first|(go_at_call 160;refine (HX.out _).mono ?_;rintro e w' ⟨rfl,rfl⟩)|(go_at_call 201;refine (HN.out _).mono ?_;rintro e w' ⟨rfl,rfl⟩))
  go_ret
  rw [HR.out]
  exact ⟨rfl,a00 _ _⟩
 have c3b:((x4:Int) != (y4:Int))=false:=by simp;omega
 by_cases c4:¬ (s[2].toNat=1∨s[2].toNat=2)
 ·have HR:Hid (outR n s=2):=by show outR n s=2;unfold outR;rw [if_neg c1,if_neg HMt.out,HV4.out,HSA.out,if_neg c3,H2.out,if_pos c4]
  have c4b:((s[2].toNat:Int) != 1)=true:=bne_iff_ne.2 (by omega)
  have c4c:((s[2].toNat:Int) != 2)=true:=bne_iff_ne.2 (by omega)
  clear c3 c4
  go_enter Tryz.func199,Tryz.ntmps199
  go_wp2_with (first|(go_at_call 160;refine (HX.out _).mono ?_;rintro e w' ⟨rfl,rfl⟩)|(go_at_call 201;refine (HN.out _).mono ?_;rintro e w' ⟨rfl,rfl⟩))
  go_ret
  rw [HR.out]
  exact ⟨rfl,a00 _ _⟩
 by_cases c5:s[3].toNat≠n
 ·rcases (Decidable.not_not.1 c4) with k2 | k2
  ·skip
   have HR:Hid (outR n s=3):=by show outR n s=3;unfold outR;rw [if_neg c1,if_neg HMt.out,HV4.out,HSA.out,if_neg c3,H2.out,if_neg c4,H3.out,if_pos c5]
   have c5b:((s[3].toNat:Int) != (n:Int))=true:=bne_iff_ne.2 (by omega)
   have k2b:((s[2].toNat:Int) != 1)=false:=by rw [k2];rfl
   have k2c:((s[2].toNat:Int) != 2)=true:=by rw [k2];rfl
   have k2d:((s[2].toNat:Int) == 1)=true:=by rw [k2];rfl
   have k2e:((s[2].toNat:Int) == 2)=false:=by rw [k2];rfl
   clear c3 c4 c5 k2
   go_enter Tryz.func199,Tryz.ntmps199
   go_wp2_with (first|(go_at_call 160;refine (HX.out _).mono ?_;rintro e w' ⟨rfl,rfl⟩)|(go_at_call 201;refine (HN.out _).mono ?_;rintro e w' ⟨rfl,rfl⟩))
   go_quiet (fail)
   go_wp2_with (first|(go_at_call 160;refine (HX.out _).mono ?_;rintro e w' ⟨rfl,rfl⟩)|(go_at_call 201;refine (HN.out _).mono ?_;rintro e w' ⟨rfl,rfl⟩))
   go_ret
   rw [HR.out]
   exact ⟨rfl,below_drewN (a00 _ _) _⟩
  ·skip
   have HR:Hid (outR n s=3):=by show outR n s=3;unfold outR;rw [if_neg c1,if_neg HMt.out,HV4.out,HSA.out,if_neg c3,H2.out,if_neg c4,H3.out,if_pos c5]
   have c5b:((s[3].toNat:Int) != (n:Int))=true:=bne_iff_ne.2 (by omega)
   have k2b:((s[2].toNat:Int) != 1)=true:=by rw [k2];rfl
   have k2c:((s[2].toNat:Int) != 2)=false:=by rw [k2];rfl
   have k2d:((s[2].toNat:Int) == 1)=false:=by rw [k2];rfl
   have k2e:((s[2].toNat:Int) == 2)=true:=by rw [k2];rfl
   clear c3 c4 c5 k2
   go_enter Tryz.func199,Tryz.ntmps199
   go_wp2_with (first|(go_at_call 160;refine (HX.out _).mono ?_;rintro e w' ⟨rfl,rfl⟩)|(go_at_call 201;refine (HN.out _).mono ?_;rintro e w' ⟨rfl,rfl⟩))
   go_quiet (fail)
   go_wp2_with (first|(go_at_call 160;refine (HX.out _).mono ?_;rintro e w' ⟨rfl,rfl⟩)|(go_at_call 201;refine (HN.out _).mono ?_;rintro e w' ⟨rfl,rfl⟩))
   go_ret
   rw [HR.out]
   exact ⟨rfl,below_drewN (a00 _ _) _⟩
 have c5b:((s[3].toNat:Int) != (n:Int))=false:=by simp;omega
 by_cases c6:n≤s[4].toNat
 ·rcases (Decidable.not_not.1 c4) with k2 | k2
  ·skip
   have HR:Hid (outR n s=4):=by show outR n s=4;unfold outR;rw [if_neg c1,if_neg HMt.out,HV4.out,HSA.out,if_neg c3,H2.out,if_neg c4,H3.out,if_neg c5,H4.out,if_pos c6]
   have c6b:(n:Int)≤(s[4].toNat:Int):=by omega
   have k2b:((s[2].toNat:Int) != 1)=false:=by rw [k2];rfl
   have k2c:((s[2].toNat:Int) != 2)=true:=by rw [k2];rfl
   have k2d:((s[2].toNat:Int) == 1)=true:=by rw [k2];rfl
   have k2e:((s[2].toNat:Int) == 2)=false:=by rw [k2];rfl
   clear c3 c4 c5 c6 k2
   go_enter Tryz.func199,Tryz.ntmps199
   go_wp2_with (first|(go_at_call 160;refine (HX.out _).mono ?_;rintro e w' ⟨rfl,rfl⟩)|(go_at_call 201;refine (HN.out _).mono ?_;rintro e w' ⟨rfl,rfl⟩))
   go_quiet (fail)
   go_wp2_with (first|(go_at_call 160;refine (HX.out _).mono ?_;rintro e w' ⟨rfl,rfl⟩)|(go_at_call 201;refine (HN.out _).mono ?_;rintro e w' ⟨rfl,rfl⟩))
   go_quiet (fail)
   go_wp2_with (first|(go_at_call 160;refine (HX.out _).mono ?_;rintro e w' ⟨rfl,rfl⟩)|(go_at_call 201;refine (HN.out _).mono ?_;rintro e w' ⟨rfl,rfl⟩))
   go_ret
   rw [HR.out]
   exact ⟨rfl,by first | exact below_drewN (a00 _ _) _ | exact below_drewN (below_drewN (a00 _ _) _) _⟩
  ·skip
   have HR:Hid (outR n s=4):=by show outR n s=4;unfold outR;rw [if_neg c1,if_neg HMt.out,HV4.out,HSA.out,if_neg c3,H2.out,if_neg c4,H3.out,if_neg c5,H4.out,if_pos c6]
   have c6b:(n:Int)≤(s[4].toNat:Int):=by omega
   have k2b:((s[2].toNat:Int) != 1)=true:=by rw [k2];rfl
   have k2c:((s[2].toNat:Int) != 2)=false:=by rw [k2];rfl
   have k2d:((s[2].toNat:Int) == 1)=false:=by rw [k2];rfl
   have k2e:((s[2].toNat:Int) == 2)=true:=by rw [k2];rfl
   clear c3 c4 c5 c6 k2
   go_enter Tryz.func199,Tryz.ntmps199
   go_wp2_with (first|(go_at_call 160;refine (HX.out _).mono ?_;rintro e w' ⟨rfl,rfl⟩)|(go_at_call 201;refine (HN.out _).mono ?_;rintro e w' ⟨rfl,rfl⟩))
   go_quiet (fail)
   go_wp2_with (first|(go_at_call 160;refine (HX.out _).mono ?_;rintro e w' ⟨rfl,rfl⟩)|(go_at_call 201;refine (HN.out _).mono ?_;rintro e w' ⟨rfl,rfl⟩))
   go_quiet (fail)
   go_wp2_with (first|(go_at_call 160;refine (HX.out _).mono ?_;rintro e w' ⟨rfl,rfl⟩)|(go_at_call 201;refine (HN.out _).mono ?_;rintro e w' ⟨rfl,rfl⟩))
   go_ret
   rw [HR.out]
   exact ⟨rfl,by first | exact below_drewN (a00 _ _) _ | exact below_drewN (below_drewN (a00 _ _) _) _⟩
 have c6b:(s[4].toNat:Int)<(n:Int):=by omega
 by_cases c7:s[2].toNat=2∧s.size≠9+2 * n
 ·rcases (Decidable.not_not.1 c4) with k2 | k2
  ·omega
  ·skip
   have HR:Hid (outR n s=(s.size:Int)):=by show outR n s=(s.size:Int);unfold outR;rw [if_neg c1,if_neg HMt.out,HV4.out,HSA.out,if_neg c3,H2.out,if_neg c4,H3.out,if_neg c5,H4.out,if_neg c6,if_pos c7]
   have c7b:((s.size:Int) != 9+2 * (n:Int))=true:=bne_iff_ne.2 (by omega)
   have k2b:((s[2].toNat:Int) != 1)=true:=by rw [k2];rfl
   have k2c:((s[2].toNat:Int) != 2)=false:=by rw [k2];rfl
   have k2d:((s[2].toNat:Int) == 1)=false:=by rw [k2];rfl
   have k2e:((s[2].toNat:Int) == 2)=true:=by rw [k2];rfl
   clear c3 c4 c5 c6 c7 k2
   go_enter Tryz.func199,Tryz.ntmps199
   go_wp2_with (first|(go_at_call 160;refine (HX.out _).mono ?_;rintro e w' ⟨rfl,rfl⟩)|(go_at_call 201;refine (HN.out _).mono ?_;rintro e w' ⟨rfl,rfl⟩))
   go_quiet (fail)
   go_wp2_with (first|(go_at_call 160;refine (HX.out _).mono ?_;rintro e w' ⟨rfl,rfl⟩)|(go_at_call 201;refine (HN.out _).mono ?_;rintro e w' ⟨rfl,rfl⟩))
   go_quiet (fail)
   go_wp2_with (first|(go_at_call 160;refine (HX.out _).mono ?_;rintro e w' ⟨rfl,rfl⟩)|(go_at_call 201;refine (HN.out _).mono ?_;rintro e w' ⟨rfl,rfl⟩))
   go_ret
   rw [HR.out]
   exact ⟨rfl,by first | exact below_drewN (a00 _ _) _ | exact below_drewN (below_drewN (a00 _ _) _) _⟩
 by_cases c8:s[2].toNat=1∧s.size<15+2 * n
 ·rcases (Decidable.not_not.1 c4) with k2 | k2
  ·skip
   have HR:Hid (outR n s=(s.size:Int)):=by show outR n s=(s.size:Int);unfold outR;rw [if_neg c1,if_neg HMt.out,HV4.out,HSA.out,if_neg c3,H2.out,if_neg c4,H3.out,if_neg c5,H4.out,if_neg c6,if_neg c7,if_pos c8]
   have c8b:(s.size:Int)<15+2 * (n:Int):=by omega
   have k2b:((s[2].toNat:Int) != 1)=false:=by rw [k2];rfl
   have k2c:((s[2].toNat:Int) != 2)=true:=by rw [k2];rfl
   have k2d:((s[2].toNat:Int) == 1)=true:=by rw [k2];rfl
   have k2e:((s[2].toNat:Int) == 2)=false:=by rw [k2];rfl
   clear c3 c4 c5 c6 c7 c8 k2
   go_enter Tryz.func199,Tryz.ntmps199
   go_wp2_with (first|(go_at_call 160;refine (HX.out _).mono ?_;rintro e w' ⟨rfl,rfl⟩)|(go_at_call 201;refine (HN.out _).mono ?_;rintro e w' ⟨rfl,rfl⟩))
   go_quiet (fail)
   go_wp2_with (first|(go_at_call 160;refine (HX.out _).mono ?_;rintro e w' ⟨rfl,rfl⟩)|(go_at_call 201;refine (HN.out _).mono ?_;rintro e w' ⟨rfl,rfl⟩))
   go_quiet (fail)
   go_wp2_with (first|(go_at_call 160;refine (HX.out _).mono ?_;rintro e w' ⟨rfl,rfl⟩)|(go_at_call 201;refine (HN.out _).mono ?_;rintro e w' ⟨rfl,rfl⟩))
   go_ret
   rw [HR.out]
   exact ⟨rfl,by first | exact below_drewN (a00 _ _) _ | exact below_drewN (below_drewN (a00 _ _) _) _⟩
  ·omega
 rcases (Decidable.not_not.1 c4) with k2 | k2
 ·skip
  have HR:Hid (outR n s = -1):=by show outR n s = -1;unfold outR;rw [if_neg c1,if_neg HMt.out,HV4.out,HSA.out,if_neg c3,H2.out,if_neg c4,H3.out,if_neg c5,H4.out,if_neg c6,if_neg c7,if_neg c8]
  have c8b:(15:Int)+2 * (n:Int)≤(s.size:Int):=by omega
  have k2b:((s[2].toNat:Int) != 1)=false:=by rw [k2];rfl
  have k2c:((s[2].toNat:Int) != 2)=true:=by rw [k2];rfl
  have k2d:((s[2].toNat:Int) == 1)=true:=by rw [k2];rfl
  have k2e:((s[2].toNat:Int) == 2)=false:=by rw [k2];rfl
  clear c3 c4 c5 c6 c7 c8 k2
  go_enter Tryz.func199,Tryz.ntmps199
  go_wp2_with (first|(go_at_call 160;refine (HX.out _).mono ?_;rintro e w' ⟨rfl,rfl⟩)|(go_at_call 201;refine (HN.out _).mono ?_;rintro e w' ⟨rfl,rfl⟩))
  go_quiet (fail)
  go_wp2_with (first|(go_at_call 160;refine (HX.out _).mono ?_;rintro e w' ⟨rfl,rfl⟩)|(go_at_call 201;refine (HN.out _).mono ?_;rintro e w' ⟨rfl,rfl⟩))
  go_quiet (fail)
  go_wp2_with (first|(go_at_call 160;refine (HX.out _).mono ?_;rintro e w' ⟨rfl,rfl⟩)|(go_at_call 201;refine (HN.out _).mono ?_;rintro e w' ⟨rfl,rfl⟩))
  go_ret
  rw [HR.out]
  exact ⟨rfl,by first | exact below_drewN (a00 _ _) _ | exact below_drewN (below_drewN (a00 _ _) _) _⟩
 ·skip
  have HR:Hid (outR n s = -1):=by show outR n s = -1;unfold outR;rw [if_neg c1,if_neg HMt.out,HV4.out,HSA.out,if_neg c3,H2.out,if_neg c4,H3.out,if_neg c5,H4.out,if_neg c6,if_neg c7,if_neg c8]
  have c7b:((s.size:Int) != 9+2 * (n:Int))=false:=by simp;omega
  have k2b:((s[2].toNat:Int) != 1)=true:=by rw [k2];rfl
  have k2c:((s[2].toNat:Int) != 2)=false:=by rw [k2];rfl
  have k2d:((s[2].toNat:Int) == 1)=false:=by rw [k2];rfl
  have k2e:((s[2].toNat:Int) == 2)=true:=by rw [k2];rfl
  clear c3 c4 c5 c6 c7 c8 k2
  go_enter Tryz.func199,Tryz.ntmps199
  go_wp2_with (first|(go_at_call 160;refine (HX.out _).mono ?_;rintro e w' ⟨rfl,rfl⟩)|(go_at_call 201;refine (HN.out _).mono ?_;rintro e w' ⟨rfl,rfl⟩))
  go_quiet (fail)
  go_wp2_with (first|(go_at_call 160;refine (HX.out _).mono ?_;rintro e w' ⟨rfl,rfl⟩)|(go_at_call 201;refine (HN.out _).mono ?_;rintro e w' ⟨rfl,rfl⟩))
  go_quiet (fail)
  go_wp2_with (first|(go_at_call 160;refine (HX.out _).mono ?_;rintro e w' ⟨rfl,rfl⟩)|(go_at_call 201;refine (HN.out _).mono ?_;rintro e w' ⟨rfl,rfl⟩))
  go_ret
  rw [HR.out]
  exact ⟨rfl,by first | exact below_drewN (a00 _ _) _ | exact below_drewN (below_drewN (a00 _ _) _) _⟩
end Go.Proofs.YtabecbjfamphbaaGreatDoor
