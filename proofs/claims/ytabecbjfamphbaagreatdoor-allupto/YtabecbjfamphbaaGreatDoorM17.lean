/- A part of the proof. -/
import Derived.Test.YtabecbjfamphbaaGreatDoorM16
import Derived.BigRegion
namespace Go.Proofs.YtabecbjfamphbaaGreatDoor
open Go.RowKit Go.Stop Go.Extern
set_option maxRecDepth 100000
def rRead (n:Nat) (W B L:Int) (s:ByteArray):Option (Option Int):=
 match rKind (byt s 2) with
 | some x=>some x
 | none=>if byt s 3=n then
   match rFrom n (byt s 4) with
   | some x=>some x
   | none=>if (byt s 2:Int)=2 then a2e n L s else a2q n W B L s
  else some (some 3)
structure Slots (b:Nat) (x:World):Prop where
 r:∀ i,i<7→∃ v,x.cell? ⟨b,i,none⟩=some v
 f:∀ i,x.frozen? ⟨b,i,none⟩=false
 z:b<x.heap.size
theorem Slots.below {b:Nat} {x y:World} (h:Slots b x) {c:Nat} (hb:Below c x y) (hz:b<c):Slots b y:=
 ⟨fun i hi=>by obtain ⟨v,hv⟩:=h.r i hi;exact ⟨v,(hb.cell (p:=⟨b,i,none⟩) hz).trans hv⟩,fun i=>(hb.frozen (p:=⟨b,i,none⟩) hz).trans (h.f i),Nat.lt_of_lt_of_le h.z hb.size⟩
theorem Slots.seven {b:Nat} {x:World} (h:Slots b x) (v0 v1 v2 v3 v4 v5 v6:Value) (X:World)
  (hX:X=(((((((x.setCell ⟨b,0,none⟩ v0).setCell ⟨b,1,none⟩ v1).setCell ⟨b,2,none⟩ v2).setCell ⟨b,3,none⟩ v3).setCell ⟨b,4,none⟩ v4).setCell ⟨b,5,none⟩ v5).setCell ⟨b,6,none⟩ v6)) :
  X.cell? ⟨b,0,none⟩=some v0∧X.cell? ⟨b,1,none⟩=some v1∧X.cell? ⟨b,2,none⟩=some v2∧X.cell? ⟨b,3,none⟩=some v3∧X.cell? ⟨b,4,none⟩=some v4∧X.cell? ⟨b,5,none⟩=some v5∧X.cell? ⟨b,6,none⟩=some v6:=by
 obtain ⟨u0,h0⟩:=h.r 0 (by omega)
 obtain ⟨u1,h1⟩:=h.r 1 (by omega)
 obtain ⟨u2,h2⟩:=h.r 2 (by omega)
 obtain ⟨u3,h3⟩:=h.r 3 (by omega)
 obtain ⟨u4,h4⟩:=h.r 4 (by omega)
 obtain ⟨u5,h5⟩:=h.r 5 (by omega)
 obtain ⟨u6,h6⟩:=h.r 6 (by omega)
 subst hX
 refine ⟨?_,?_,?_,?_,?_,?_,?_⟩<;>go_simp
theorem a4b (w:World) (r:Array Value) (t:TypeId) (hr:r.size=7):Slots w.heap.size (w.alloc (.cells r t)):=by
 refine ⟨fun i hi=>⟨r[i]'(by omega),?_⟩,fun i=>?_,by simp⟩
 ·rw [cell_of_row _ _ i r t (0,0) (heap_alloc_new _ _)]
  exact Array.getElem?_eq_getElem _
 ·exact frozen_of_row _ _ i r t (heap_alloc_new _ _)
structure Desk (z:Nat) (x:World) (N W B L K F:Int):Prop where
 c0:x.cell? ⟨z,0,none⟩=some (.int .i64 N)
 c1:x.cell? ⟨z,1,none⟩=some (.int .i64 W)
 c2:x.cell? ⟨z,2,none⟩=some (.int .i64 B)
 c3:x.cell? ⟨z,3,none⟩=some (.int .i64 L)
 f0:x.cell? ⟨z+1+1,0,none⟩=some (.int .i64 K)
 f1:x.cell? ⟨z+1+1,1,none⟩=some (.int .i64 F)
 f2:x.cell? ⟨z+1+1,2,none⟩=some (.int .i64 0)
 f3:x.cell? ⟨z+1+1,3,none⟩=some (.int .i64 0)
 f4:x.cell? ⟨z+1+1,4,none⟩=some (.int .i64 0)
 f5:x.cell? ⟨z+1+1,5,none⟩=some (.slice none 0 0)
 f6:x.cell? ⟨z+1+1,6,none⟩=some (.string ⟨#[]⟩)
 s:Slots (z+1) x
 z:z+1+1<x.heap.size
theorem Desk.below {z:Nat} {x y:World} {N W B L K F:Int} (h:Desk z x N W B L K F) {c:Nat} (hb:Below c x y) (hz:z+1+1<c):Desk z y N W B L K F:=by
 have e:∀ (b:Nat) (i:Nat),b<c→y.cell? ⟨b,i,none⟩=x.cell? ⟨b,i,none⟩:=fun b i hlt=>hb.cell (p:=⟨b,i,none⟩) hlt
 obtain ⟨k0,k1,k2,k3,g0,g1,g2,g3,g4,g5,g6,hs,hz'⟩:=h
 have hz0:z<c:=by omega
 refine ⟨(e _ _ hz0).trans k0,(e _ _ hz0).trans k1,(e _ _ hz0).trans k2,(e _ _ hz0).trans k3,(e _ _ hz).trans g0,(e _ _ hz).trans g1,(e _ _ hz).trans g2,(e _ _ hz).trans g3,(e _ _ hz).trans g4,(e _ _ hz).trans g5,(e _ _ hz).trans g6,hs.below hb (by omega),Nat.lt_of_lt_of_le hz' hb.size⟩
theorem ay8 (w:World) (N W B L K F:Int) (tc tf tr:TypeId) :
  Desk w.heap.size (((w.alloc (.cells #[.int .i64 N,.int .i64 W,.int .i64 B,.int .i64 L] tc)).alloc (.cells #[.int .i64 0,.int .i64 0,.int .i64 0,.int .i64 0,.int .i64 0,.slice none 0 0,.string { data:=#[] }] tr)).alloc (.cells #[.int .i64 K,.int .i64 F,.int .i64 0,.int .i64 0,.int .i64 0,.slice none 0 0,.string { data:=#[] }] tf)) N W B L K F:=by
 refine ⟨?_,?_,?_,?_,?_,?_,?_,?_,?_,?_,?_,?_,?_⟩
 case refine_12 =>
  have:=a4b (w.alloc (.cells #[.int .i64 N,.int .i64 W,.int .i64 B,.int .i64 L] tc)) #[.int .i64 0,.int .i64 0,.int .i64 0,.int .i64 0,.int .i64 0,.slice none 0 0,.string { data:=#[] }] tr rfl
  simp at this
  exact this.below (c:=w.heap.size+1+1) ((Below.refl _ _).alloc (by simp) _) (by omega)
 all_goals go_simp
set_option maxHeartbeats 2000000 in
theorem b4e (a0 a1:Addr) (n:Nat) (W B L:Int) (s:ByteArray) (w:World) (hw:Sent w a0 a1) (hG:okG n W B L=true) (hs:s.size≤maxLen) (hl:9+2 * n≤s.size) :
  Calls Tryz.prog 185 #[.agg #[.int .i64 (n:Int),.int .i64 W,.int .i64 B,.int .i64 L],.string s] w
   fun e w'=>(∃ fv v,e=.returned (.tuple #[fv,v])∧FrV fv∧IsF a1 v (rRead n W B L s)∧(rRead n W B L s=none →
    (byt s 2=2∧Got w' w.heap.size n 2 (byt s 4) 0 0 0 (vecOf s 5 n) ⟨#[]⟩ fv)∨(byt s 2=1∧Got w' w.heap.size n 1 (byt s 4) (byt s 5) (val s 6 2) (val s 8 2) (vecOf s 10 n) (s.extract (11+2 * n) (s.size-4)) fv)))∧Below w.heap.size w w':=by
 have HW:Hid (Sent w a0 a1):=hw
 have HS:Hid (s.size≤maxLen):=hs
 have HG:Hid (okG n W B L=true):=hG
 have HL:Hid (9+2 * n≤s.size):=hl
 obtain ⟨h1,h2,h3,h4,h5,h6,h7,h8⟩:=a0u.1 hG
 unfold maxLen at hs
 clear hw hG
 have hi2:2<s.size:=by omega
 have hi3:3<s.size:=by omega
 have hi4:4<s.size:=by omega
 have hi2i:(2:Int)<s.size:=by omega
 have hi3i:(3:Int)<s.size:=by omega
 have hi4i:(4:Int)<s.size:=by omega
 have H2:Hid (byt s 2=s[2].toNat):=a1m s 2 hi2
 have H3:Hid (byt s 3=s[3].toNat):=a1m s 3 hi3
 have H4:Hid (byt s 4=s[4].toNat):=a1m s 4 hi4
 have hb2:=s[2].toNat_lt
 have hb3:=s[3].toNat_lt
 have hb4:=s[4].toNat_lt
 go_enter Tryz.func185,Tryz.ntmps185
 go_wp2_with fail
 go_region
 generalize s[2].toNat=k2 at *
 generalize s[4].toNat=k4 at *
 have hd0:=ay8 w n W B L k2 k4 26 45 45
 have hdb:Below w.heap.size w (((w.alloc (.cells #[.int .i64 (n:Int),.int .i64 W,.int .i64 B,.int .i64 L] 26)).alloc (.cells #[.int .i64 0,.int .i64 0,.int .i64 0,.int .i64 0,.int .i64 0,.slice none 0 0,.string { data:=#[] }] 45)).alloc (.cells #[.int .i64 (k2:Int),.int .i64 (k4:Int),.int .i64 0,.int .i64 0,.int .i64 0,.slice none 0 0,.string { data:=#[] }] 45)):=(a09 _ _ _).alloc (by simp;omega) _
 generalize (((w.alloc (.cells #[.int .i64 (n:Int),.int .i64 W,.int .i64 B,.int .i64 L] 26)).alloc (.cells #[.int .i64 0,.int .i64 0,.int .i64 0,.int .i64 0,.int .i64 0,.slice none 0 0,.string { data:=#[] }] 45)).alloc (.cells #[.int .i64 (k2:Int),.int .i64 (k4:Int),.int .i64 0,.int .i64 0,.int .i64 0,.slice none 0 0,.string { data:=#[] }] 45))=X0 at *
 have HD1:Hid (Desk w.heap.size X0.drew n W B L k2 k4):=hd0.below (c:=X0.heap.size) (Below.refl _ _).drew hd0.z
 have HA1:Hid (Below w.heap.size w X0.drew):=hdb.drew
 generalize X0.drew=w1 at *
 clear hd0 hdb
 have D:=HD1.out
 have fr:=D.s.f
 obtain ⟨u0,hu0⟩:=D.s.r 0 (by omega)
 obtain ⟨u1,hu1⟩:=D.s.r 1 (by omega)
 obtain ⟨u2,hu2⟩:=D.s.r 2 (by omega)
 obtain ⟨u3,hu3⟩:=D.s.r 3 (by omega)
 obtain ⟨u4,hu4⟩:=D.s.r 4 (by omega)
 obtain ⟨u5,hu5⟩:=D.s.r 5 (by omega)
 obtain ⟨u6,hu6⟩:=D.s.r 6 (by omega)
 obtain ⟨c0,c1,c2,c3,f0,f1,f2,f3,f4,f5,f6,_,cz⟩:=D
 go_wp2_with fail
 refine (a6n a0 a1 k2 k4 0 0 0 none 0 0 ⟨#[]⟩ w1 (HW.out.below HA1.out)).mono ?_
 rintro e w2 ⟨⟨v,rfl,hv⟩,hb⟩
 have HA2:Hid (Below w.heap.size w w2):=bthen HA1.out hb
 have HD2:Hid (Desk w.heap.size w2 n W B L k2 k4):=HD1.out.below hb HD1.out.z
 clear hb HD1 HA1
 clear c0 c1 c2 c3 f0 f1 f2 f3 f4 f5 f6 fr hu0 hu1 hu2 hu3 hu4 hu5 hu6 u0 u1 u2 u3 u4 u5 u6 cz
 have D:=HD2.out
 have fr:=D.s.f
 obtain ⟨u0,hu0⟩:=D.s.r 0 (by omega)
 obtain ⟨u1,hu1⟩:=D.s.r 1 (by omega)
 obtain ⟨u2,hu2⟩:=D.s.r 2 (by omega)
 obtain ⟨u3,hu3⟩:=D.s.r 3 (by omega)
 obtain ⟨u4,hu4⟩:=D.s.r 4 (by omega)
 obtain ⟨u5,hu5⟩:=D.s.r 5 (by omega)
 obtain ⟨u6,hu6⟩:=D.s.r 6 (by omega)
 obtain ⟨c0,c1,c2,c3,f0,f1,f2,f3,f4,f5,f6,_,cz⟩:=D
 cases hr:rKind (k2:Int) with
 | some x =>
  rw [hr] at hv
  have HV:Hid (IsF a1 v (some x)):=hv
  have HRR:Hid (rRead n W B L s=some x):=by show rRead n W B L s=_;unfold rRead;rw [H2.out,hr]
  obtain ⟨t,y,rfl⟩:=hv.a1b.2 x rfl
  clear hv hr
  go_wp2_with fail
  obtain ⟨r0,r1,r2,r3,r4,r5,r6⟩:=Slots.seven HD2.out.s (.int .i64 k2) (.int .i64 k4) (.int .i64 0) (.int .i64 0) (.int .i64 0) (.slice none 0 0) (.string ⟨#[]⟩) _ rfl
  refine bodyPost_ret (v:=.tuple #[.agg #[.int .i64 k2,.int .i64 k4,.int .i64 0,.int .i64 0,.int .i64 0,.slice none 0 0,.string ⟨#[]⟩],.iface t y]) (by simp [results,Tryz.results185,go_sem,r0,r1,r2,r3,r4,r5,r6]) rfl ⟨⟨_,_,rfl,⟨k2,k4,0,0,0,none,0,0,_,rfl⟩,?_,?_⟩,?_⟩
  ·rw [HRR.out];exact HV.out
  ·intro h;rw [HRR.out] at h;cases h
  ·exact a0b HA2.out (by omega) _ _ _ _ _ _ _
 | none =>
  rw [hr] at hv
  obtain rfl:=hv.a1b.1 rfl
  have hK:k2=1∨k2=2:=by
   by_cases h:(k2:Int)=1∨(k2:Int)=2
   ·omega
   ·unfold rKind at hr;rw [if_neg h] at hr;cases hr
  have HKR:Hid (rKind (k2:Int)=none):=hr
  clear hv hr
  by_cases c9:s[3].toNat=n
  ·have HR3:Hid (rRead n W B L s=match rFrom n k4 with
    | some x=>some x
    | none=>if (k2:Int)=2 then a2e n L s else a2q n W B L s):=by show rRead n W B L s=_;unfold rRead;rw [H2.out,HKR.out,H3.out,H4.out];simp only [c9,if_true]
   have c9b:((s[3].toNat:Int) != (n:Int))=false:=by simp [c9]
   clear c9
   go_wp2_with fail
   go_quiet (fail)
   go_wp2_with fail
   have HA3:Hid (Below w.heap.size w (w2.drewN nq)):=below_drewN HA2.out _
   have HD3:Hid (Desk w.heap.size (w2.drewN nq) n W B L k2 k4):=HD2.out.below (c:=w2.heap.size) (below_drewN (Below.refl _ _) _) HD2.out.z
   clear c0 c1 c2 c3 f0 f1 f2 f3 f4 f5 f6 fr hu0 hu1 hu2 hu3 hu4 hu5 hu6 u0 u1 u2 u3 u4 u5 u6 cz
   generalize w2.drewN nq=w3 at *
   refine (a6h a0 a1 n W B L k2 k4 0 0 0 none 0 0 ⟨#[]⟩ w3 (HW.out.below HA3.out)).mono ?_
   rintro e w4 ⟨⟨v,rfl,hv⟩,hb⟩
   have HA4:Hid (Below w.heap.size w w4):=bthen HA3.out hb
   have HD4:Hid (Desk w.heap.size w4 n W B L k2 k4):=HD3.out.below hb HD3.out.z
   clear hb HD3 HA3
   have D:=HD4.out
   have fr:=D.s.f
   obtain ⟨u0,hu0⟩:=D.s.r 0 (by omega)
   obtain ⟨u1,hu1⟩:=D.s.r 1 (by omega)
   obtain ⟨u2,hu2⟩:=D.s.r 2 (by omega)
   obtain ⟨u3,hu3⟩:=D.s.r 3 (by omega)
   obtain ⟨u4,hu4⟩:=D.s.r 4 (by omega)
   obtain ⟨u5,hu5⟩:=D.s.r 5 (by omega)
   obtain ⟨u6,hu6⟩:=D.s.r 6 (by omega)
   obtain ⟨c0,c1,c2,c3,f0,f1,f2,f3,f4,f5,f6,_,cz⟩:=D
   cases hr:rFrom (n:Int) (k4:Int) with
   | some x =>
    rw [hr] at hv
    have HV:Hid (IsF a1 v (some x)):=hv
    have HRR:Hid (rRead n W B L s=some x):=by show rRead n W B L s=_;rw [HR3.out,hr]
    obtain ⟨t,y,rfl⟩:=hv.a1b.2 x rfl
    clear hv hr hK
    go_wp2_with fail
    obtain ⟨r0,r1,r2,r3,r4,r5,r6⟩:=Slots.seven HD4.out.s (.int .i64 k2) (.int .i64 k4) (.int .i64 0) (.int .i64 0) (.int .i64 0) (.slice none 0 0) (.string ⟨#[]⟩) _ rfl
    refine bodyPost_ret (v:=.tuple #[.agg #[.int .i64 k2,.int .i64 k4,.int .i64 0,.int .i64 0,.int .i64 0,.slice none 0 0,.string ⟨#[]⟩],.iface t y]) (by simp [results,Tryz.results185,go_sem,r0,r1,r2,r3,r4,r5,r6]) rfl ⟨⟨_,_,rfl,⟨k2,k4,0,0,0,none,0,0,_,rfl⟩,?_,?_⟩,?_⟩
    ·rw [HRR.out];exact HV.out
    ·intro h;rw [HRR.out] at h;cases h
    ·exact a0b HA4.out (by omega) _ _ _ _ _ _ _
   | none =>
    rw [hr] at hv
    obtain rfl:=hv.a1b.1 rfl
    clear hv
    rcases hK with rfl | rfl
    ·have HRR:Hid (rRead n W B L s=a2q n W B L s):=by show rRead n W B L s=_;rw [HR3.out,hr];rfl
     clear hr
     go_wp2_with fail
     refine (ah9 a0 a1 n W B L k4 s ⟨#[]⟩ w4 (HW.out.below HA4.out) HG.out HS.out).mono ?_
     rintro e w5 ⟨⟨fv,v,rfl,hfv,hv,hgot⟩,hb⟩
     obtain ⟨K',F',O',S',L',ad,len,cap,bd,rfl⟩:=hfv
     have HV:Hid _:=hv
     have HGot:Hid _:=hgot
     have HA5:Hid (Below w.heap.size w w5):=bthen HA4.out hb
     have HD5:Hid (Desk w.heap.size w5 n W B L _ k4):=HD4.out.below hb HD4.out.z
     clear hv hgot hb
     clear c0 c1 c2 c3 f0 f1 f2 f3 f4 f5 f6 fr hu0 hu1 hu2 hu3 hu4 hu5 hu6 u0 u1 u2 u3 u4 u5 u6 cz
     have D:=HD5.out
     have fr:=D.s.f
     obtain ⟨u0,hu0⟩:=D.s.r 0 (by omega)
     obtain ⟨u1,hu1⟩:=D.s.r 1 (by omega)
     obtain ⟨u2,hu2⟩:=D.s.r 2 (by omega)
     obtain ⟨u3,hu3⟩:=D.s.r 3 (by omega)
     obtain ⟨u4,hu4⟩:=D.s.r 4 (by omega)
     obtain ⟨u5,hu5⟩:=D.s.r 5 (by omega)
     obtain ⟨u6,hu6⟩:=D.s.r 6 (by omega)
     obtain ⟨c0,c1,c2,c3,f0,f1,f2,f3,f4,f5,f6,_,cz⟩:=D
     go_wp2_with fail
     obtain ⟨r0,r1,r2,r3,r4,r5,r6⟩:=Slots.seven HD5.out.s (.int .i64 K') (.int .i64 F') (.int .i64 O') (.int .i64 S') (.int .i64 L') (.slice ad len cap) (.string bd) _ rfl
     refine bodyPost_ret (v:=.tuple #[.agg #[.int .i64 K',.int .i64 F',.int .i64 O',.int .i64 S',.int .i64 L',.slice ad len cap,.string bd],v]) (by simp [results,Tryz.results185,go_sem,r0,r1,r2,r3,r4,r5,r6]) rfl ⟨⟨_,_,rfl,⟨_,_,_,_,_,_,_,_,_,rfl⟩,?_,?_⟩,?_⟩
     ·rw [HRR.out];exact HV.out
     ·intro h
      rw [HRR.out] at h
      obtain ⟨⟨g,hg,hfe,hrow⟩⟩:=HGot.out h
      have hz:=HD4.out.z
      rw [H4.out]
      exact Or.inr ⟨H2.out,⟨⟨g,by omega,hfe,hrow.set7 (by omega) _ _ _ _ _ _ _⟩⟩⟩
     ·exact a0b HA5.out (by omega) _ _ _ _ _ _ _
    ·have HRR:Hid (rRead n W B L s=a2e n L s):=by show rRead n W B L s=_;rw [HR3.out,hr];rfl
     clear hr
     go_wp2_with fail
     refine (ac0 a0 a1 n W B L k4 s ⟨#[]⟩ rfl w4 (HW.out.below HA4.out) HG.out HS.out HL.out).mono ?_
     rintro e w5 ⟨⟨fv,v,rfl,hfv,hv,hgot⟩,hb⟩
     obtain ⟨K',F',O',S',L',ad,len,cap,bd,rfl⟩:=hfv
     have HV:Hid _:=hv
     have HGot:Hid _:=hgot
     have HA5:Hid (Below w.heap.size w w5):=bthen HA4.out hb
     have HD5:Hid (Desk w.heap.size w5 n W B L _ k4):=HD4.out.below hb HD4.out.z
     clear hv hgot hb
     clear c0 c1 c2 c3 f0 f1 f2 f3 f4 f5 f6 fr hu0 hu1 hu2 hu3 hu4 hu5 hu6 u0 u1 u2 u3 u4 u5 u6 cz
     have D:=HD5.out
     have fr:=D.s.f
     obtain ⟨u0,hu0⟩:=D.s.r 0 (by omega)
     obtain ⟨u1,hu1⟩:=D.s.r 1 (by omega)
     obtain ⟨u2,hu2⟩:=D.s.r 2 (by omega)
     obtain ⟨u3,hu3⟩:=D.s.r 3 (by omega)
     obtain ⟨u4,hu4⟩:=D.s.r 4 (by omega)
     obtain ⟨u5,hu5⟩:=D.s.r 5 (by omega)
     obtain ⟨u6,hu6⟩:=D.s.r 6 (by omega)
     obtain ⟨c0,c1,c2,c3,f0,f1,f2,f3,f4,f5,f6,_,cz⟩:=D
     go_wp2_with fail
     obtain ⟨r0,r1,r2,r3,r4,r5,r6⟩:=Slots.seven HD5.out.s (.int .i64 K') (.int .i64 F') (.int .i64 O') (.int .i64 S') (.int .i64 L') (.slice ad len cap) (.string bd) _ rfl
     refine bodyPost_ret (v:=.tuple #[.agg #[.int .i64 K',.int .i64 F',.int .i64 O',.int .i64 S',.int .i64 L',.slice ad len cap,.string bd],v]) (by simp [results,Tryz.results185,go_sem,r0,r1,r2,r3,r4,r5,r6]) rfl ⟨⟨_,_,rfl,⟨_,_,_,_,_,_,_,_,_,rfl⟩,?_,?_⟩,?_⟩
     ·rw [HRR.out];exact HV.out
     ·intro h
      rw [HRR.out] at h
      obtain ⟨⟨g,hg,hfe,hrow⟩⟩:=HGot.out h
      have hz:=HD4.out.z
      rw [H4.out]
      exact Or.inl ⟨H2.out,⟨⟨g,by omega,hfe,hrow.set7 (by omega) _ _ _ _ _ _ _⟩⟩⟩
     ·exact a0b HA5.out (by omega) _ _ _ _ _ _ _
  ·have HRR:Hid (rRead n W B L s=some (some 3)):=by show rRead n W B L s=_;unfold rRead;rw [H2.out,HKR.out,H3.out];simp only [c9,if_false]
   have c9b:((s[3].toNat:Int) != (n:Int))=true:=bne_iff_ne.2 (by omega)
   clear c9
   go_wp2_with fail
   go_quiet (fail)
   go_wp2_with fail
   go_region_with (first|(go_at_call 209;refine (a4v a0 a1 _ _ _ ?_).mono ?_;exact (HW.out.below (below_drewN HA2.out _)).drew;rintro e w' ⟨⟨vr,rfl,hvr⟩,rfl⟩))
   all_goals
    go_wp2
    have HS9:Hid (Slots (w.heap.size+1) (w2.drewN (nq+1))):=HD2.out.s.below (c:=w2.heap.size) (below_drewN (Below.refl _ _) _) HD2.out.s.z
    obtain ⟨r0,r1,r2,r3,r4,r5,r6⟩:=Slots.seven HS9.out (.int .i64 k2) (.int .i64 k4) (.int .i64 0) (.int .i64 0) (.int .i64 0) (.slice none 0 0) (.string ⟨#[]⟩) _ rfl
    refine bodyPost_ret (v:=.tuple #[.agg #[.int .i64 k2,.int .i64 k4,.int .i64 0,.int .i64 0,.int .i64 0,.slice none 0 0,.string ⟨#[]⟩],vr]) (by simp [results,Tryz.results185,go_sem,r0,r1,r2,r3,r4,r5,r6]) rfl ⟨⟨_,_,rfl,⟨k2,k4,0,0,0,none,0,0,_,rfl⟩,?_,?_⟩,?_⟩
    ·rw [HRR.out];exact hvr
    ·intro h;rw [HRR.out] at h;cases h
    ·exact a0b (below_drewN HA2.out _) (by omega) _ _ _ _ _ _ _
theorem a3b {w:World} {base g n cap:Nat} {vs:List Int} (h:w.ownsRow base 3 1 (.slice (some ⟨g,0,none⟩) n cap) n (irow vs)):Ints w (some ⟨g,0,none⟩) n vs:=by
 have hl:vs.length=n:=by have:=h.1;simp [irow] at this;exact this
 refine ⟨hl,fun i hi=>⟨g,0,rfl,?_⟩⟩
 rcases h.2 with ⟨he,h0⟩ | ⟨g',cap',cur,he,_,hh,hnc,_,hcs,htk⟩
 ·omega
 ·cases he
  refine ⟨lt_of_some hh,?_⟩
  rw [cell_of_row w g (0+i) cur _ (0,0) hh]
  have h1:(cur.toList.take (n * 1))[i]?=(irow vs)[i]?:=by rw [htk]
  have h2:(irow vs)[i]?=some (.int .i64 (vs.getD i 0)):=by
   simp [irow,List.getD_eq_getElem?_getD,List.getElem?_eq_getElem (show i<vs.length by omega)]
  rw [h2,List.getElem?_take_of_lt (by omega)] at h1
  simpa using h1
theorem ai5 {w w':World} {base base' g n cap:Nat} {xs:List Value} {E:Nat→Prop} (h:w.ownsRow base 3 1 (.slice (some ⟨g,0,none⟩) n cap) n xs) (ha:Alike w w' E) (hE:¬ E g) (hb:base'≤base):w'.ownsRow base' 3 1 (.slice (some ⟨g,0,none⟩) n cap) n xs:=by
 refine ⟨h.1,?_⟩
 rcases h.2 with h | ⟨g',cap',cur,he,hg,hh,hr⟩
 ·exact Or.inl h
 ·cases he
  exact Or.inr ⟨g,cap,cur,rfl,Nat.le_trans hb hg,(ha.block g (lt_of_some hh) hE).trans hh,hr⟩
set_option maxHeartbeats 1000000 in
theorem am0 (b n:Nat) (W B L:Int) (p gv:Nat) (rows:List Nat) (vs:List (List Int)) (body:ByteArray) (hp:p<n) (hn:n≤8) (hbs:body.size≤1000) (w:World) (hb:NB w b n W B L p gv) (hv:NVw w gv n rows vs) (hcb:0≤vw vs p p∧vw vs p p≤65535) :
  Calls Tryz.prog 148 #[.pointer (some ⟨b,0,none⟩),.string body] w fun e w'=>(∃ g cap,e=.returned (Fr.agg n ⟨1,p,p,vw vs p p+1,lowTo vs L p n,some ⟨g,0,none⟩,cap,vs.getD p [],body⟩)∧w'.ownsRow w.heap.size 3 1 (.slice (some ⟨g,0,none⟩) n cap) n (irow (vs.getD p [])))∧Below w.heap.size w w':=by
 have HCl:Hid (∀ x,Below w.heap.size w x→Calls Tryz.prog 102 #[.pointer (some ⟨b,0,none⟩)] x fun e w'=>e=.returned (.slice (some ⟨rows.getD p 0,0,none⟩) n n)∧∃ m,w'=x.drewN m):=fun x hx=>a2x b n W B L p gv rows vs x (hb.alike (E:=fun _=>False) (Alike.of_below hx _) (fun h=>h)) (hv.alike (E:=fun _=>False) (Alike.of_below hx _) (fun h=>h) (fun _ _ h=>h)) hp
 have HLw:Hid (∀ x,Below w.heap.size w x→Calls Tryz.prog 188 #[.pointer (some ⟨b,0,none⟩),.int .i64 (p:Int)] x fun e w'=>e=.returned (.int .i64 (lowTo vs L p n))∧w'=x):=fun x hx=>an2 b n W B L p gv rows vs p x (hb.alike (E:=fun _=>False) (Alike.of_below hx _) (fun h=>h)) (hv.alike (E:=fun _=>False) (Alike.of_below hx _) (fun h=>h) (fun _ _ h=>h)) hp hn
 have HI:Hid (Ints w (some ⟨rows.getD p 0,0,none⟩) n (vs.getD p [])):=⟨hv.elen p hp,fun i hi=>⟨_,0,rfl,(hv.each p hp).lt,by rw [Nat.zero_add];exact hv.cell hp hi⟩⟩
 have HC4:Hid (∀ x,Below w.heap.size w x→x.cell? ⟨b,4,none⟩=some (.int .i64 (p:Int))):=fun x hx=>(hx.cell (p:=⟨b,4,none⟩) (lt_of_cell hb.c4)).trans hb.c4
 have hvw:vw vs p p=(vs.getD p []).getD p 0:=rfl
 have HVW:Hid _:=hvw
 have hpi:(p:Int)<(n:Int):=by omega
 have hwr:IntKind.i64.wrap (vw vs p p+1)=vw vs p p+1:=by rw [IntKind.wrap_i64];omega
 have HBW:Hid (b<w.heap.size):=lt_of_cell hb.c4
 clear hb hv hvw
 generalize rows.getD p 0=gp at *
 generalize vs.getD p []=cl at *
 generalize vw vs p p=y at *
 generalize lowTo vs L p n=lw at *
 go_enter Tryz.func148,Tryz.ntmps148
 go_wp2_with fail
 have HBX:Hid (Below w.heap.size w (w.alloc (.cells #[.int .i64 0,.int .i64 0,.int .i64 0,.int .i64 0,.int .i64 0,.slice none 0 0,.string ⟨#[]⟩] 45))):=a00 w _
 have hsX:Slots w.heap.size (w.alloc (.cells #[.int .i64 0,.int .i64 0,.int .i64 0,.int .i64 0,.int .i64 0,.slice none 0 0,.string ⟨#[]⟩] 45)):=a4b w _ _ rfl
 have HSX:Hid _:=hsX
 have hzX:w.heap.size<(w.alloc (.cells #[.int .i64 0,.int .i64 0,.int .i64 0,.int .i64 0,.int .i64 0,.slice none 0 0,.string ⟨#[]⟩] 45)).heap.size:=by simp
 clear hsX
 generalize w.alloc (.cells #[.int .i64 0,.int .i64 0,.int .i64 0,.int .i64 0,.int .i64 0,.slice none 0 0,.string ⟨#[]⟩] 45)=X at *
 refine (HCl.out X HBX.out).mono ?_
 rintro e w1 ⟨rfl,m,rfl⟩
 have HB1:Hid (Below w.heap.size w (X.drewN m)):=below_drewN HBX.out _
 have HS1:Hid (Slots w.heap.size (X.drewN m)):=HSX.out.below (below_drewN (Below.refl X.heap.size X) m) hzX
 have hz1:w.heap.size<(X.drewN m).heap.size:=hzX
 generalize X.drewN m=w1 at *
 go_wp2_with fail
 refine (a3x ⟨gp,0,none⟩ n n cl w1 (HI.out.below HB1.out) (by omega) (by omega)).mono ?_
 rintro e w2 ⟨⟨v,rfl,hown⟩,hb2⟩
 have HB2:Hid (Below w.heap.size w w2):=bthen HB1.out hb2
 have HS2:Hid (Slots w.heap.size w2):=HS1.out.below hb2 hz1
 have hz2:w1.heap.size≤w2.heap.size:=hb2.size
 have HOw:Hid _:=hown
 obtain ⟨g,cap,rfl⟩:∃ g cap,v=.slice (some ⟨g,0,none⟩) n cap:=by
  rcases hown.2 with ⟨_,h⟩ | ⟨g,cap,_,h,_⟩
  ·omega
  ·exact ⟨g,cap,h⟩
 obtain ⟨_,_,ea,hgz,hcp⟩:=(a3b hown).cell p hp
 cases ea
 rw [←HVW.out,Nat.zero_add] at hcp
 have c4:=HC4.out w2 HB2.out
 have hbz:b<w2.heap.size:=lt_of_cell c4
 have HKc:Hid (∀ x,Below w2.heap.size w2 x→x.cell? ⟨b,4,none⟩=some (.int .i64 (p:Int))∧x.cell? ⟨g,p,none⟩=some (.int .i64 y)):=fun x hx=>⟨(hx.cell (p:=⟨b,4,none⟩) hbz).trans c4,(hx.cell (p:=⟨g,p,none⟩) hgz).trans hcp⟩
 have hgw:w1.heap.size≤g:=by
  rcases hown.2 with ⟨_,h⟩ | ⟨g',cap',_,h,h',_⟩
  ·omega
  ·cases h;exact h'
 have hgn:g≠w.heap.size:=by omega
 have hgn':w.heap.size≠g:=by omega
 have hbn:b≠w.heap.size:=by have:=HBW.out;omega
 have hbn':w.heap.size≠b:=fun h=>hbn h.symm
 clear hown hb2
 go_wp2_with fail
 go_region_held3 (fun x=>x.cell? ⟨b,4,none⟩=some (.int .i64 (p:Int))∧x.cell? ⟨g,p,none⟩=some (.int .i64 y)) (first|(with_reducible exact ⟨(a4q _ _ _ _ _ _ _ _ _ _ _ _ _ _ _ _).cell (HKc.out w3 HB3.out).1 hbn,(a4q _ _ _ _ _ _ _ _ _ _ _ _ _ _ _ _).cell (HKc.out w3 HB3.out).2 hgn⟩)|(with_reducible exact HKc.out w3 HB3.out)|(exact ⟨c4,hcp⟩) | go_keep) (first|(go_at_call 188;refine (HLw.out _ HB2.out.drew).mono ?_;rintro e w' ⟨rfl,rfl⟩)|(go_at_call 187;refine (a9d body _ hbs).mono ?_;rintro e w3 ⟨rfl,hb3⟩;have HB3:Hid (Below w2.heap.size w2 w3):=(Below.refl _ _).drew.trans hb3;have HS3:Slots w.heap.size w3:=HS2.out.below HB3.out (by omega);obtain ⟨u0,e0⟩:=HS3.r 0 (by omega);obtain ⟨u1,e1⟩:=HS3.r 1 (by omega);obtain ⟨u2,e2⟩:=HS3.r 2 (by omega);obtain ⟨u3,e3⟩:=HS3.r 3 (by omega);obtain ⟨u4,e4⟩:=HS3.r 4 (by omega);obtain ⟨u5,e5⟩:=HS3.r 5 (by omega);obtain ⟨u6,e6⟩:=HS3.r 6 (by omega);have hfz:=HS3.f;have HSH:Hid _:=HS3;clear hb3 HS3))
 clear e0 e1 e2 e3 e4 e5 e6 hfz
 have HA7:Hid _:=a4q w3 w.heap.size 0 1 2 3 4 5 6 (.int .i64 1) (.int .i64 (p:Int)) (.int .i64 (p:Int)) (.int .i64 (y+1)) (.int .i64 lw) (.slice (some ⟨g,0,none⟩) n cap) (.string body)
 go_wp2_with fail
 obtain ⟨r0,r1,r2,r3,r4,r5,r6⟩:=Slots.seven HSH.out (.int .i64 1) (.int .i64 (p:Int)) (.int .i64 (p:Int)) (.int .i64 (y+1)) (.int .i64 lw) (.slice (some ⟨g,0,none⟩) n cap) (.string body) _ rfl
 refine bodyPost_ret (v:=.agg #[.int .i64 1,.int .i64 (p:Int),.int .i64 (p:Int),.int .i64 (y+1),.int .i64 lw,.slice (some ⟨g,0,none⟩) n cap,.string body]) (by simp [results,Tryz.results148,go_sem,r0,r1,r2,r3,r4,r5,r6]) rfl ⟨⟨g,cap,rfl,?_⟩,?_⟩
 ·exact ai5 (ai5 HOw.out (Alike.of_below HB3.out (fun _=>False)) (fun h=>h) (Nat.le_refl _)) HA7.out hgn (by omega)
 ·exact a0b (bthen HB2.out HB3.out) (Nat.le_refl _) _ _ _ _ _ _ _
structure Sl (w:World) (A:Nat→Addr) (base:Nat):Prop where
 s:Sents w A
 g:∀ k,1≤k→k≤8→gOf k<base∧(A k).block<base
theorem Sl.alike {w w':World} {A:Nat→Addr} {base:Nat} {E:Nat→Prop} (h:Sl w A base) (ha:Alike w w' E) (hE:∀ k,k<base→¬ E k):Sl w' A base:=
 ⟨⟨fun k h1 h2=>ha.cell (h.s.c k h1 h2) (hE _ (h.g k h1 h2).1),h.s.ne,fun k h1 h2=>by
  obtain ⟨ca,ta,e⟩:=h.s.b k h1 h2
  exact ⟨ca,ta,(ha.block _ (lt_of_some e) (hE _ (h.g k h1 h2).2)).trans e⟩⟩,h.g⟩
theorem Sl.low {w w':World} {A:Nat→Addr} {base:Nat} (h:Sl w A base) (hb:Below w.heap.size w w'):Sl w' A base:=h.alike (Alike.of_below hb (fun _=>False)) (fun _ _ h=>h)
theorem Sl.sent {w:World} {A:Nat→Addr} {base:Nat} (h:Sl w A base):Sent w (A 1) (A 5):=⟨A,h.s,rfl,rfl⟩
structure Lay where
 gv:Nat
 rows:List Nat
 sa:Option Addr
 scap:Nat
 ha:Option Addr
 hcap:Nat
structure VecAt (w:World) (n:Nat) (f:Fr):Prop where
 ints:Ints w f.ad n f.vec
 ty:∃ g cur,f.ad=some ⟨g,0,none⟩∧w.heap[g]?=some (.cells cur 3 (0,0))
theorem VecAt.alike {w w':World} {n:Nat} {f:Fr} {E:Nat→Prop} (h:VecAt w n f) (ha:Alike w w' E) (hE:∀ k,onB f.ad k→¬ E k):VecAt w' n f:=by
 obtain ⟨g,cur,e,hg⟩:=h.ty
 exact ⟨h.ints.alike ha (fun c off hc=>hE c ⟨off,hc⟩),g,cur,e,(ha.block g (lt_of_some hg) (hE g ⟨0,e⟩)).trans hg⟩
theorem VecAt.block {w:World} {n:Nat} {f:Fr} (h:VecAt w n f) {k:Nat} (hk:onB f.ad k):∃ cur,w.heap[k]?=some (.cells cur 3 (0,0)):=by
 obtain ⟨g,cur,e,hg⟩:=h.ty
 obtain ⟨off,e'⟩:=hk
 rw [e] at e'
 cases e'
 exact ⟨cur,hg⟩
theorem VecAt.low {w w':World} {n:Nat} {f:Fr} (h:VecAt w n f) (hb:Below w.heap.size w w'):VecAt w' n f:=h.alike (Alike.of_below hb (fun _=>False)) (fun _ _ h=>h)
theorem a2u {w:World} {gv n:Nat} {rows:List Nat} {vs:List (List Int)} (h:NVw w gv n rows vs) {q:Nat} (hq:q<n):rows.getD q 0∈rows:=by
 have:=h.rlen
 rw [List.getD_eq_getElem?_getD,List.getElem?_eq_getElem (by omega)]
 exact List.getElem_mem _
theorem ap7 {w:World} {gv n:Nat} {rows:List Nat} {vs:List (List Int)} (h:NVw w gv n rows vs) {k:Nat} (hk:k∈rows):∃ q,q<n∧k=rows.getD q 0:=by
 have:=h.rlen
 obtain ⟨q,hq,rfl⟩:=List.mem_iff_getElem.1 hk
 exact ⟨q,by omega,by rw [List.getD_eq_getElem?_getD,List.getElem?_eq_getElem hq];rfl⟩
structure Nod (w:World) (b n:Nat) (W B L:Int) (p:Nat) (G:Lay) (vs:List (List Int)) (fs:List Fr) (hs:List Wd):Prop where
 nb:NB w b n W B L p G.gv
 nv:NVw w G.gv n G.rows vs
 c6:w.cell? ⟨b,6,none⟩=some (.slice G.sa fs.length G.scap)
 fr:Frs w n G.sa fs.length G.scap fs
 vec:∀ f∈fs,VecAt w n f∧∀ k,onB f.ad k→k ∉ G.rows
 c7:w.cell? ⟨b,7,none⟩=some (.slice G.ha hs.length G.hcap)
 wd:Wds w G.ha hs.length G.hcap hs
def Lay.foot (G:Lay) (b:Nat) (fs:List Fr) (k:Nat):Prop:=k=b∨k=G.gv∨k∈G.rows∨onB G.sa k∨onB G.ha k∨∃ f∈fs,onB f.ad k
theorem a3i (G:Lay) (b:Nat) (fs:List Fr):G.foot b fs b:=Or.inl rfl
theorem an4 (G:Lay) (b:Nat) (fs:List Fr):G.foot b fs G.gv:=Or.inr (Or.inl rfl)
theorem a1z {G:Lay} {b:Nat} {fs:List Fr} {k:Nat} (h:k∈G.rows):G.foot b fs k:=Or.inr (Or.inr (Or.inl h))
theorem a6r {G:Lay} {b:Nat} {fs:List Fr} {k:Nat} (h:onB G.sa k):G.foot b fs k:=Or.inr (Or.inr (Or.inr (Or.inl h)))
theorem a8d {G:Lay} {b:Nat} {fs:List Fr} {k:Nat} (h:onB G.ha k):G.foot b fs k:=Or.inr (Or.inr (Or.inr (Or.inr (Or.inl h))))
theorem ae3 {G:Lay} {b:Nat} {fs:List Fr} {k:Nat} {f:Fr} (hf:f∈fs) (h:onB f.ad k):G.foot b fs k:=Or.inr (Or.inr (Or.inr (Or.inr (Or.inr ⟨f,hf,h⟩))))
section
variable {w w':World} {b n:Nat} {W B L:Int} {p:Nat} {G:Lay} {vs vs':List (List Int)} {fs fs':List Fr} {hs hs':List Wd} {E:Nat→Prop}
theorem Nod.alike (h:Nod w b n W B L p G vs fs hs) (ha:Alike w w' E) (hE:∀ k,G.foot b fs k→¬ E k):Nod w' b n W B L p G vs fs hs:=
 ⟨h.nb.alike ha (hE b (a3i _ _ _)),h.nv.alike ha (hE _ (an4 _ _ _)) (fun _ hq=>hE _ (a1z (a2u h.nv hq))),ha.cell h.c6 (hE b (a3i _ _ _)),h.fr.alike ha (fun g off hg=>hE g (a6r ⟨off,hg⟩)),
  fun f hf=>⟨(h.vec f hf).1.alike ha (fun _ hk=>hE _ (ae3 hf hk)),(h.vec f hf).2⟩,ha.cell h.c7 (hE b (a3i _ _ _)),h.wd.alike ha (fun g off hg=>hE g (a8d ⟨off,hg⟩))⟩
theorem Nod.low (h:Nod w b n W B L p G vs fs hs) (hb:Below w.heap.size w w'):Nod w' b n W B L p G vs fs hs:=h.alike (Alike.of_below hb (fun _=>False)) (fun _ _ h=>h)
theorem Nod.ab6 (h:Nod w b n W B L p G vs fs hs) {k:Nat} (hk:onB G.sa k):∃ cur,w.heap[k]?=some (.cells cur 45 (0,0)):=by
 obtain ⟨off,e⟩:=hk
 rcases h.fr.own.2 with ⟨he,_⟩ | ⟨g,cap',cur',he,_,hh,_⟩
 ·rw [e] at he;cases he
 ·rw [e] at he;cases he;exact ⟨cur',hh⟩
theorem Nod.a6m (h:Nod w b n W B L p G vs fs hs) {k:Nat} (hk:onB G.ha k):∃ cur,w.heap[k]?=some (.cells cur 89 (0,0)):=by
 obtain ⟨off,e⟩:=hk
 rcases h.wd.own.2 with ⟨he,_⟩ | ⟨g,cap',cur',he,_,hh,_⟩
 ·rw [e] at he;cases he
 ·rw [e] at he;cases he;exact ⟨cur',hh⟩
theorem Nod.a1k (h:Nod w b n W B L p G vs fs hs) {k:Nat} (hk:G.foot b fs k):k<w.heap.size:=by
 rcases hk with rfl | rfl | hk | hk | hk | ⟨f,hf,hk⟩
 ·exact lt_of_cell h.nb.c0
 ·obtain ⟨_,e⟩:=h.nv.ty;exact lt_of_some e
 ·obtain ⟨q,hq,rfl⟩:=ap7 h.nv hk;exact (h.nv.each q hq).lt
 ·obtain ⟨_,e⟩:=h.ab6 hk;exact lt_of_some e
 ·obtain ⟨_,e⟩:=h.a6m hk;exact lt_of_some e
 ·obtain ⟨_,e⟩:=(h.vec f hf).1.block hk;exact lt_of_some e
theorem Nod.kept (h:Nod w b n W B L p G vs fs hs) (hk:ab2 w w' b n G.sa fs') (hf:∀ f∈fs',f∈fs∨(VecAt w n f∧∀ k,onB f.ad k→k ∉ G.rows)) :
  ∃ G':Lay,Nod w' b n W B L p G' vs fs' hs∧G'.gv=G.gv∧G'.rows=G.rows∧G'.ha=G.ha∧∀ k,onB G'.sa k→onB G.sa k∨w.heap.size≤k:=by
 obtain ⟨sa',scap',e6,hfr,hnew⟩:=hk.how
 obtain ⟨cb,hcb⟩:=h.nb.ty
 have hoff:∀ {k:Nat} {cur:Array Value} {t:TypeId},w.heap[k]?=some (.cells cur t (0,0))→t≠149→t≠45→¬ (k=b∨onB G.sa k):=fun hk' h1 h2 hor=>by
  rcases hor with e | hs
  ·exact ty_ne hk' hcb h1 e
  ·exact a6d h.fr hk' h2 hs
 have o:∀ i v,i≠6→w.cell? ⟨b,i,none⟩=some v→w'.cell? ⟨b,i,none⟩=some v:=hk.others
 refine ⟨{ G with sa:=sa',scap:=scap' },⟨⟨o _ _ (by decide) h.nb.c0,o _ _ (by decide) h.nb.c1,o _ _ (by decide) h.nb.c2,o _ _ (by decide) h.nb.c3,o _ _ (by decide) h.nb.c4,o _ _ (by decide) h.nb.c5,hk.ty⟩,?_,e6,hfr,fun f hf'=>?_,o _ _ (by decide) h.c7,?_⟩,rfl,rfl,rfl,fun k ⟨off,hk⟩=>hnew k off hk⟩
 ·obtain ⟨cg,hg⟩:=h.nv.ty
  exact h.nv.alike hk.rest (hoff hg (by decide) (by decide)) (fun q hq=>hoff (h.nv.each q hq) (by decide) (by decide))
 ·have h2:VecAt w n f∧∀ k,onB f.ad k→k ∉ G.rows:=by
   rcases hf f hf' with h' | h'
   ·exact h.vec f h'
   ·exact h'
  exact ⟨h2.1.alike hk.rest (fun k hk'=>by
   obtain ⟨c,e⟩:=h2.1.block hk'
   exact hoff e (by decide) (by decide)),h2.2⟩
 ·exact h.wd.alike hk.rest (fun g off hg=>by
   obtain ⟨c,e⟩:=h.a6m ⟨off,hg⟩
   exact hoff e (by decide) (by decide))
theorem Nod.aw7 (h:Nod w b n W B L p G vs fs hs) (hv:NVw w' G.gv n G.rows vs') (ha:Alike w w' (fun k=>k∈G.rows)):Nod w' b n W B L p G vs' fs hs:=by
 have hoff:∀ {k:Nat} {cur:Array Value} {t:TypeId},w.heap[k]?=some (.cells cur t (0,0))→t≠3→¬ k∈G.rows:=fun hk h1 hm=>by
  obtain ⟨q,hq,rfl⟩:=ap7 h.nv hm
  exact ty_ne hk (h.nv.each q hq) h1 rfl
 obtain ⟨cb,hcb⟩:=h.nb.ty
 have hb:¬ b∈G.rows:=hoff hcb (by decide)
 exact ⟨h.nb.alike ha hb,hv,ha.cell h.c6 hb,h.fr.alike ha (fun g off hg=>by
  obtain ⟨c,e⟩:=h.ab6 ⟨off,hg⟩
  exact hoff e (by decide)),fun f hf=>⟨(h.vec f hf).1.alike ha (h.vec f hf).2,(h.vec f hf).2⟩,ha.cell h.c7 hb,h.wd.alike ha (fun g off hg=>by
  obtain ⟨c,e⟩:=h.a6m ⟨off,hg⟩
  exact hoff e (by decide))⟩
theorem Nod.begin (h:Nod w b n W B L p G vs fs hs) (hbd:∀ q,q<n→0≤vw vs p q∧vw vs p q≤65535):HkSt w w b n W B L p G.gv G.rows G.sa fs.length G.scap fs G.ha vs hs:=
 ⟨h.nb,h.nv,h.c6,h.fr,fun f hf=>(h.vec f hf).1.ints,⟨G.ha,G.hcap,h.c7,h.wd,fun _ off e=>Or.inl ⟨off,e⟩⟩,Alike.refl _ _,fun _ _ _ h=>h,hbd⟩
theorem Nod.apart (h:Nod w b n W B L p G vs fs hs) (hp:p<n):∀ f∈fs,∀ c off,f.ad=some ⟨c,off,none⟩→c<w.heap.size∧c≠b∧c≠G.rows.getD p 0∧¬ onB G.ha c:=fun f hf c off e=>by
 obtain ⟨cur,hc⟩:=(h.vec f hf).1.block ⟨off,e⟩
 obtain ⟨cb,hcb⟩:=h.nb.ty
 refine ⟨lt_of_some hc,ty_ne hc hcb (by decide),fun he=>(h.vec f hf).2 c ⟨off,e⟩ (he ▸ a2u h.nv hp),fun ho=>?_⟩
 obtain ⟨ch,hh⟩:=h.a6m ho
 exact ty_ne hc hh (by decide) rfl
theorem Nod.finish (h:Nod w b n W B L p G vs fs hs) (hp:p<n) (hk:HkSt w w' b n W B L p G.gv G.rows G.sa fs.length G.scap fs G.ha vs' hs') :
  ∃ G':Lay,Nod w' b n W B L p G' vs' fs hs'∧G'.gv=G.gv∧G'.rows=G.rows∧G'.sa=G.sa∧∀ k,onB G'.ha k→onB G.ha k∨w.heap.size≤k:=by
 obtain ⟨ha',hcap',h7,hw,hn⟩:=hk.hrd
 refine ⟨{ G with ha:=ha',hcap:=hcap' },⟨hk.nb,hk.nv,hk.c6,hk.fr,fun f hf=>⟨⟨hk.vec f hf,?_⟩,(h.vec f hf).2⟩,h7,hw⟩,rfl,rfl,rfl,fun k ⟨off,e⟩=>hn k off e⟩
 obtain ⟨g,cur,e,hg⟩:=(h.vec f hf).1.ty
 refine ⟨g,cur,e,(hk.rest.block g (lt_of_some hg) ?_).trans hg⟩
 obtain ⟨_,h1,h2,h3⟩:=h.apart hp f hf g 0 e
 exact fun ho=>ho.elim h1 (fun ho=>ho.elim h2 h3)
end
theorem Seven.alike {g:Nat} {x y:World} {v0 v1 v2 v3 v4 v5 v6:Value} {E:Nat→Prop} (h:Seven g x v0 v1 v2 v3 v4 v5 v6) (ha:Alike x y E) (hE:¬ E g):Seven g y v0 v1 v2 v3 v4 v5 v6:=
 ⟨ha.cell h.c0 hE,ha.cell h.c1 hE,ha.cell h.c2 hE,ha.cell h.c3 hE,ha.cell h.c4 hE,ha.cell h.c5 hE,ha.cell h.c6 hE,Nat.lt_of_lt_of_le h.z ha.size⟩
theorem Seven.set1 {g:Nat} {x:World} {v0 v1 v2 v3 v4 v5 v6:Value} (h:Seven g x v0 v1 v2 v3 v4 v5 v6) (u:Value):Seven g (x.setCell ⟨g,1,none⟩ u) v0 u v2 v3 v4 v5 v6:=by
 have o:∀ i v,i≠1→x.cell? ⟨g,i,none⟩=some v→(x.setCell ⟨g,1,none⟩ u).cell? ⟨g,i,none⟩=some v:=fun i v hi hv=>(World.cell?_setCell_other _ _ _ _ (by intro h;simp only [Addr.mk.injEq] at h;omega)).trans hv
 exact ⟨o _ _ (by decide) h.c0,World.cell?_setCell_same _ _ _ h.c1,o _ _ (by decide) h.c2,o _ _ (by decide) h.c3,o _ _ (by decide) h.c4,o _ _ (by decide) h.c5,o _ _ (by decide) h.c6,by simpa [World.setCell] using h.z⟩
structure NAt (w x:World) (b n:Nat) (W B L:Int) (p:Nat) (F:Nat→Prop) (G:Lay) (vs:List (List Int)) (fs:List Fr) (hs:List Wd):Prop where
 nod:Nod x b n W B L p G vs fs hs
 own:∀ k,G.foot b fs k→F k∨w.heap.size≤k
 rest:Alike w x F
section
variable {w x y:World} {b n:Nat} {W B L:Int} {p:Nat} {F:Nat→Prop} {G:Lay} {vs vs':List (List Int)} {fs fs':List Fr} {hs hs':List Wd}
theorem NAt.begin (h:Nod w b n W B L p G vs fs hs) (hF:∀ k,G.foot b fs k→F k):NAt w w b n W B L p F G vs fs hs:=⟨h,fun k hk=>Or.inl (hF k hk),Alike.refl _ _⟩
theorem NAt.low (h:NAt w x b n W B L p F G vs fs hs) (hb:Below x.heap.size x y):NAt w y b n W B L p F G vs fs hs:=
 ⟨h.nod.low hb,h.own,h.rest.trans (Alike.of_below hb (fun _=>False)) (fun _ _ h=>h.elim)⟩
theorem NAt.then (h:NAt w x b n W B L p F G vs fs hs) {E:Nat→Prop} (ha:Alike x y E) (hE:∀ k,E k→G.foot b fs k):Alike w y F:=
 h.rest.trans ha (fun k hk he=>by
  rcases h.own k (hE k he) with h1 | h1
  ·exact h1
  ·omega)
theorem NAt.kept (h:NAt w x b n W B L p F G vs fs hs) (hk:ab2 x y b n G.sa fs') (hf:∀ f∈fs',f∈fs∨(VecAt x n f∧(∀ k,onB f.ad k→k ∉ G.rows)∧∀ k,onB f.ad k→F k∨w.heap.size≤k)):∃ G',NAt w y b n W B L p F G' vs fs' hs:=by
 obtain ⟨G',hN,e1,e2,e3,hs4⟩:=h.nod.kept hk (fun f hf'=>(hf f hf').imp id (fun h=>⟨h.1,h.2.1⟩))
 have hz:=h.rest.size
 refine ⟨G',hN,fun k hk'=>?_,h.then hk.rest (fun k hk'=>?_)⟩
 ·rcases hk' with rfl | rfl | hk' | hk' | hk' | ⟨f,hf',hk'⟩
  ·exact h.own _ (a3i _ _ _)
  ·rw [e1];exact h.own _ (an4 _ _ _)
  ·rw [e2] at hk';exact h.own _ (a1z hk')
  ·rcases hs4 k hk' with h1 | h1
   ·exact h.own _ (a6r h1)
   ·exact Or.inr (by omega)
  ·rw [e3] at hk';exact h.own _ (a8d hk')
  ·rcases hf f hf' with h1 | h1
   ·exact h.own _ (ae3 h1 hk')
   ·exact h1.2.2 k hk'
 ·rcases hk' with rfl | hk'
  ·exact a3i _ _ _
  ·exact a6r hk'
theorem NAt.aw7 (h:NAt w x b n W B L p F G vs fs hs) (hv:NVw y G.gv n G.rows vs') (ha:Alike x y (fun k=>k∈G.rows)):NAt w y b n W B L p F G vs' fs hs:=
 ⟨h.nod.aw7 hv ha,h.own,h.then ha (fun _ hk=>a1z hk)⟩
theorem NAt.heard (h:NAt w x b n W B L p F G vs fs hs) (hp:p<n) (hk:HkSt x y b n W B L p G.gv G.rows G.sa fs.length G.scap fs G.ha vs' hs'):∃ G',NAt w y b n W B L p F G' vs' fs hs'∧G'.sa=G.sa:=by
 obtain ⟨G',hN,e1,e2,e3,hs4⟩:=h.nod.finish hp hk
 have hz:=h.rest.size
 refine ⟨G',⟨hN,fun k hk'=>?_,h.then hk.rest (fun k hk'=>?_)⟩,e3⟩
 ·rcases hk' with rfl | rfl | hk' | hk' | hk' | ⟨f,hf',hk'⟩
  ·exact h.own _ (a3i _ _ _)
  ·rw [e1];exact h.own _ (an4 _ _ _)
  ·rw [e2] at hk';exact h.own _ (a1z hk')
  ·rw [e3] at hk';exact h.own _ (a6r hk')
  ·rcases hs4 k hk' with h1 | h1
   ·exact h.own _ (a8d h1)
   ·exact Or.inr (by omega)
  ·exact h.own _ (ae3 hf' hk')
 ·rcases hk' with rfl | rfl | hk'
  ·exact a3i _ _ _
  ·exact a1z (a2u h.nod.nv hp)
  ·exact a8d hk'
theorem NAt.took (h:NAt w x b n W B L p F G vs fs hs) (hp:p<n) (hbd:∀ q,q<n→0≤vw vs p q∧vw vs p q≤65535) {f:Fr} {o:Nat} (hon:o<n) (ht:au6 x y b (G.rows.getD p 0) G.ha (hs++[f.word])) (hv:NVw y G.gv n G.rows (vset vs p o f.seq)) (hsq:0≤f.seq∧f.seq≤65535):∃ G',NAt w y b n W B L p F G' (vset vs p o f.seq) fs (hs++[f.word]):=by
 obtain ⟨G',h',_⟩:=h.heard hp ((h.nod.begin hbd).took hp hon (h.nod.apart hp) (fun _ off e=>Or.inl ⟨off,e⟩) h.nod.wd ht hv hsq)
 exact ⟨G',h'⟩
theorem NAt.off (h:NAt w x b n W B L p F G vs fs hs) {z:Nat} (hz:z<w.heap.size) (hF:¬ F z):¬ G.foot b fs z:=fun hc=>by
 rcases h.own z hc with h1 | h1
 ·exact hF h1
 ·omega
end
theorem a6e (G:Lay) (b:Nat) (fs:List Fr) (k:Nat) (h:k=b∨onB G.sa k):G.foot b fs k:=by
 rcases h with rfl | h
 ·exact a3i _ _ _
 ·exact a6r h
theorem af9 {w:World} {b n:Nat} {W B L:Int} {p:Nat} {G:Lay} {vs:List (List Int)} {fs:List Fr} {hs:List Wd} (hN:Nod w b n W B L p G vs fs hs) (hp:p<n) (k:Nat) (h:k=b∨k=G.rows.getD p 0∨onB G.ha k):G.foot b fs k:=by
 rcases h with rfl | rfl | h
 ·exact a3i _ _ _
 ·exact a1z (a2u hN.nv hp)
 ·exact a8d h
end Go.Proofs.YtabecbjfamphbaaGreatDoor
namespace Go.Proofs.YtabecbjfamphbaaGreatDoor
set_option maxRecDepth 100000
structure Fm where
 org:Int
 seq:Int
 low:Int
 vec:List Int
 body:ByteArray
def Fm.word (f:Fm):Wd:=⟨f.org,f.seq,f.body⟩
structure Gr where
 n:Nat
 W:Int
 B:Int
 L:Int
structure Gr.Ok (g:Gr):Prop where
 n:2≤g.n∧g.n≤8
 W:1≤g.W∧g.W≤8
 B:0≤g.B∧g.B≤40
 L:1≤g.L∧g.L≤65535
structure NS where
 vs:List (List Int)
 st:List Fm
 hs:List Wd
def Bef (a f:Fm):Prop:=a.org<f.org∨(a.org=f.org∧a.seq<f.seq)
instance (a f:Fm):Decidable (Bef a f):=by unfold Bef;exact inferInstance
theorem Bef.trans {a b c:Fm} (h:Bef a b) (h':Bef b c):Bef a c:=by unfold Bef at *;omega
def insM:List Fm→Fm→List Fm
 | [],f=>[f]
 | a :: st,f=>if Bef a f then a :: insM st f else f :: a :: st
theorem a2s {st:List Fm} {f a:Fm}:a∈insM st f↔a=f∨a∈st:=by
 induction st with
 | nil=>simp [insM]
 | cons b st ih =>
  unfold insM
  split
  ·rw [List.mem_cons,List.mem_cons,ih]
   constructor
   ·rintro (h | h | h)
    ·exact Or.inr (Or.inl h)
    ·exact Or.inl h
    ·exact Or.inr (Or.inr h)
   ·rintro (h | h | h)
    ·exact Or.inr (Or.inl h)
    ·exact Or.inl h
    ·exact Or.inr (Or.inr h)
  ·simp
theorem ap0 (st:List Fm) (f:Fm):(insM st f).length=st.length+1:=by
 induction st with
 | nil=>rfl
 | cons b st ih =>
  unfold insM
  split
  ·simp [ih]
  ·rfl
theorem a5j {st:List Fm} {f:Fm} (h:st.Pairwise Bef) (hne:∀ a∈st,¬ (a.org=f.org∧a.seq=f.seq)):(insM st f).Pairwise Bef:=by
 induction st with
 | nil=>simp [insM]
 | cons b st ih =>
  obtain ⟨h1,h2⟩:=List.pairwise_cons.1 h
  unfold insM
  split
  ·rename_i hb
   refine List.pairwise_cons.2 ⟨fun x hx=>?_,ih h2 (fun a ha=>hne a (List.mem_cons_of_mem _ ha))⟩
   rcases a2s.1 hx with rfl | hx
   ·exact hb
   ·exact h1 x hx
  ·rename_i hb
   have hfb:Bef f b:=by
    have:=hne b List.mem_cons_self
    unfold Bef at *
    omega
   exact List.pairwise_cons.2 ⟨fun x hx=>by
    rcases List.mem_cons.1 hx with rfl | hx
    ·exact hfb
    ·exact hfb.trans (h1 x hx),h⟩
def nxM (vs:List (List Int)) (p n:Nat) (f:Fm):Bool:=decide (f.seq=vw vs p f.org.toNat+1∧∀ q,q<n→f.vec.getD q 0≤vw vs p q)
def runM (n p:Nat) (st:List Fm):Nat→List (List Int)→List Wd→List (List Int) × List Wd
 | 0,vs,hs=>(vs,hs)
 | k+1,vs,hs=>match st.find? (nxM vs p n) with
  | none=>(vs,hs)
  | some f=>runM n p st k (vset vs p f.org.toNat f.seq) (hs++[f.word])
def Gr.low (g:Gr) (vs:List (List Int)) (o:Nat):Int:=lowTo vs g.L o g.n
def a2p (g:Gr) (vs:List (List Int)) (st:List Fm):List Fm:=st.filter (fun f=>!decide (f.seq≤g.low vs f.org.toNat))
theorem a1v {g:Gr} {vs:List (List Int)} {st:List Fm} {f:Fm}:f∈a2p g vs st↔f∈st∧g.low vs f.org.toNat<f.seq:=by
 unfold a2p
 rw [List.mem_filter]
 simp
def NS.word (g:Gr) (p:Nat) (s:NS) (body:ByteArray):Fm:=⟨p,vw s.vs p p+1,g.low s.vs p,s.vs.getD p [],body⟩
def NS.said (g:Gr) (p:Nat) (s:NS) (f:Fm):NS:=⟨vset s.vs p p f.seq,a2p g (vset s.vs p p f.seq) (insM s.st f),s.hs++[f.word]⟩
def NS.ran (g:Gr) (p:Nat) (s:NS) (f:Fm):List (List Int) × List Wd:=runM g.n p (insM s.st f) (s.st.length+1) (vlow s.vs p f.org.toNat f.low g.n) s.hs
def NS.got (g:Gr) (p:Nat) (s:NS) (f:Fm):NS:=⟨(s.ran g p f).1,a2p g (s.ran g p f).1 (insM s.st f),(s.ran g p f).2⟩
def NS.told (g:Gr) (s:NS) (q:Nat) (v:List Int):NS:=⟨a1n s.vs q v g.n,a2p g (a1n s.vs q v g.n) s.st,s.hs⟩
structure Fm.Ok (g:Gr) (f:Fm):Prop where
 org:∃ o:Nat,f.org=o∧o<g.n
 seq:1≤f.seq∧f.seq≤g.L
 low:0≤f.low∧f.low<f.seq∧f.seq-g.W≤f.low
 len:f.vec.length=g.n
 vec:∀ q,q<g.n→0≤f.vec.getD q 0∧f.vec.getD q 0≤g.L
 own:f.vec.getD f.org.toNat 0=f.seq-1
 body:(f.body.size:Int)≤g.B
theorem Fm.Ok.lt {g:Gr} {f:Fm} (h:f.Ok g):f.org.toNat<g.n:=by
 obtain ⟨o,e,ho⟩:=h.org
 omega
theorem Fm.Ok.a8a {g:Gr} {f:Fm} (h:f.Ok g):(f.org.toNat:Int)=f.org:=by
 obtain ⟨o,e,ho⟩:=h.org
 omega
def cntW (hs:List Wd) (o:Nat):Nat:=hs.countP (fun x=>decide (x.org=(o:Int)))
theorem ap8 (hs:List Wd) (x:Wd) (o:Nat):cntW (hs++[x]) o=cntW hs o+if x.org=(o:Int) then 1 else 0:=by
 unfold cntW
 rw [List.countP_append]
 simp [List.countP_cons]
structure Clk (g:Gr) (p:Nat) (vs:List (List Int)) (hs:List Wd):Prop where
 shp:Shp vs g.n
 bd:∀ q o,q<g.n→o<g.n→0≤vw vs q o∧vw vs q o≤g.L
 cnt:∀ o,o<g.n→vw vs p o=(cntW hs o:Int)
 hd:∀ x∈hs,∃ o:Nat,x.org=o∧o<g.n
structure NS.Ok (g:Gr) (p:Nat) (s:NS):Prop where
 clk:Clk g p s.vs s.hs
 st:∀ f∈s.st,f.Ok g
 sorted:s.st.Pairwise Bef
 win:∀ f∈s.st,g.low s.vs f.org.toNat<f.seq∧f.seq≤g.low s.vs f.org.toNat+g.W
 own:∀ f∈s.st,f.org=p→f.seq≤vw s.vs p p
theorem Clk.aj5 {g:Gr} {p:Nat} {vs:List (List Int)} {hs:List Wd} (_h:Clk g p vs hs) (q o:Nat) (hq:q<g.n):g.low vs o≤vw vs q o:=a6i _ _ _ _ _ hq
theorem Clk.b1m {g:Gr} {p:Nat} {vs:List (List Int)} {hs:List Wd} (h:Clk g p vs hs) (hg:g.Ok) (o:Nat) (ho:o<g.n):0≤g.low vs o∧g.low vs o≤g.L:=
 ⟨a5q _ _ _ _ _ (by have:=hg.L;omega) (fun q hq=>(h.bd q o hq ho).1),a7a _ _ _ _⟩
theorem Clk.take {g:Gr} {p:Nat} {vs:List (List Int)} {hs:List Wd} (h:Clk g p vs hs) (hp:p<g.n) {f:Fm} (hf:f.Ok g) (hs1:f.seq=vw vs p f.org.toNat+1):Clk g p (vset vs p f.org.toNat f.seq) (hs++[f.word]):=by
 have hl:=hf.lt
 have ho:=hf.a8a
 have hq:=hf.seq
 refine ⟨h.shp.vset _ _ _,fun q o hq' ho'=>?_,fun o ho'=>?_,fun x hx=>?_⟩
 ·rw [a2f h.shp hp hl]
  split
  ·omega
  ·exact h.bd q o hq' ho'
 ·rw [a2f h.shp hp hl,ap8]
  have h3:=h.cnt o ho'
  show _=((cntW hs o+if f.org=(o:Int) then 1 else 0:Nat):Int)
  by_cases e:o=f.org.toNat
  ·rw [if_pos ⟨rfl,e⟩,if_pos (by omega)]
   rw [←e] at hs1
   omega
  ·rw [if_neg (fun c=>e c.2),if_neg (by omega)]
   omega
 ·rcases List.mem_append.1 hx with h' | h'
  ·exact h.hd x h'
  ·rw [List.mem_singleton.1 h']
   exact hf.org
theorem ab9 {g:Gr} {p:Nat} {vs:List (List Int)} (h:Shp vs g.n) (hp:p<g.n) {o:Nat} (ho:o<g.n) {x:Int} (hx:vw vs p o≤x) (o':Nat):g.low vs o'≤g.low (vset vs p o x) o':=
 a6w _ _ _ _ _ (fun q _=>by
  rw [a2f h hp ho]
  split
  ·rename_i e
   rw [e.1,e.2];exact hx
  ·exact Int.le_refl _)
theorem Clk.run {g:Gr} {p:Nat} (hp:p<g.n) {st:List Fm} (hst:∀ f∈st,f.Ok g) (k:Nat):∀ {vs:List (List Int)} {hs:List Wd},Clk g p vs hs→Clk g p (runM g.n p st k vs hs).1 (runM g.n p st k vs hs).2∧(∀ o,g.low vs o≤g.low (runM g.n p st k vs hs).1 o)∧∀ o,vw vs p o≤vw (runM g.n p st k vs hs).1 p o:=by
 induction k with
 | zero=>exact fun h=>⟨h,fun _=>Int.le_refl _,fun _=>Int.le_refl _⟩
 | succ k ih =>
  intro vs hs h
  unfold runM
  cases e:st.find? (nxM vs p g.n) with
  | none=>exact ⟨h,fun _=>Int.le_refl _,fun _=>Int.le_refl _⟩
  | some f =>
   have hf:=hst f (List.mem_of_find?_eq_some e)
   have hn:nxM vs p g.n f=true:=List.find?_some e
   have hn:=of_decide_eq_true hn
   obtain ⟨h1,h2,h3⟩:=ih (h.take hp hf hn.1)
   refine ⟨h1,fun o=>Int.le_trans (ab9 h.shp hp hf.lt (by omega) o) (h2 o),fun o=>Int.le_trans ?_ (h3 o)⟩
   rw [a2f h.shp hp hf.lt]
   split
   ·rename_i e
    rw [e.2]
    omega
   ·exact Int.le_refl _
theorem Clk.learn {g:Gr} {p:Nat} {vs:List (List Int)} {hs:List Wd} (h:Clk g p vs hs) {q:Nat} (hq:q<g.n) (hqp:q≠p) {v:List Int} (hv:∀ o,o<g.n→0≤v.getD o 0∧v.getD o 0≤g.L):Clk g p (a1n vs q v g.n) hs∧∀ o,g.low vs o≤g.low (a1n vs q v g.n) o:=by
 refine ⟨⟨h.shp.a1n _ _ _,fun q' o hq' ho=>?_,fun o ho=>?_,h.hd⟩,fun o=>a6w _ _ _ _ _ (fun q' _=>?_)⟩
 ·rw [a3p h.shp hq _ _ (Nat.le_refl _)]
  have h1:=h.bd q' o hq' ho
  have h2:=hv o ho
  split<;>omega
 ·rw [a3p h.shp hq _ _ (Nat.le_refl _),if_neg (by omega)]
  exact h.cnt o ho
 ·rw [a3p h.shp hq _ _ (Nat.le_refl _)]
  split<;>omega
theorem Clk.lows {g:Gr} {p:Nat} {vs:List (List Int)} {hs:List Wd} (h:Clk g p vs hs) {o:Nat} (ho:o<g.n) {x:Int} (hx:0≤x∧x≤g.L):Clk g p (vlow vs p o x g.n) hs∧∀ o',g.low vs o'≤g.low (vlow vs p o x g.n) o':=by
 refine ⟨⟨h.shp.vlow _ _ _ _,fun q' o' hq' ho'=>?_,fun o' ho'=>?_,h.hd⟩,fun o'=>a6w _ _ _ _ _ (fun q' _=>?_)⟩
 ·rw [a5o h.shp ho _ _ (Nat.le_refl _)]
  have h1:=h.bd q' o' hq' ho'
  split<;>omega
 ·rw [a5o h.shp ho _ _ (Nat.le_refl _),if_neg (by omega)]
  exact h.cnt o' ho'
 ·rw [a5o h.shp ho _ _ (Nat.le_refl _)]
  split<;>omega
theorem Ok.forget {g:Gr} {p:Nat} {vs:List (List Int)} {hs:List Wd} {st:List Fm} (h:Clk g p vs hs) (hst:∀ f∈st,f.Ok g) (hso:st.Pairwise Bef) (hw:∀ f∈st,f.seq≤g.low vs f.org.toNat+g.W) (how:∀ f∈st,f.org=p→f.seq≤vw vs p p):NS.Ok g p ⟨vs,a2p g vs st,hs⟩:=
 ⟨h,fun f hf=>hst f (a1v.1 hf).1,hso.filter _,fun f hf=>⟨(a1v.1 hf).2,hw f (a1v.1 hf).1⟩,fun f hf=>how f (a1v.1 hf).1⟩
theorem NS.Ok.told {g:Gr} {p:Nat} {s:NS} (h:s.Ok g p) {q:Nat} (hq:q<g.n) (hqp:q≠p) {v:List Int} (hv:∀ o,o<g.n→0≤v.getD o 0∧v.getD o 0≤g.L):(s.told g q v).Ok g p:=by
 obtain ⟨h1,h2⟩:=h.clk.learn hq hqp hv
 exact Ok.forget h1 h.st h.sorted (fun f hf=>by
  have:=(h.win f hf).2
  have:=h2 f.org.toNat
  omega) (fun f hf ho=>by
  rw [a3p h.clk.shp hq _ _ (Nat.le_refl _),if_neg (by omega)]
  exact h.own f hf ho)
theorem NS.as3 {g:Gr} {p:Nat} {s:NS} (h:s.Ok g p) (hg:g.Ok) (hp:p<g.n) {body:ByteArray} (hb:(body.size:Int)≤g.B) (hl:vw s.vs p p<g.L) (hw:vw s.vs p p-g.low s.vs p<g.W):(s.word g p body).Ok g:=by
 have h1:=h.clk.bd p p hp hp
 have h2:=h.clk.b1m hg p hp
 have h3:=h.clk.aj5 p p hp
 refine ⟨⟨p,rfl,hp⟩,?_,?_,h.clk.shp.elen p hp,fun q hq=>h.clk.bd p q hp hq,?_,hb⟩
 ·show 1≤vw s.vs p p+1∧vw s.vs p p+1≤g.L
  omega
 ·show 0≤g.low s.vs p∧g.low s.vs p<vw s.vs p p+1∧vw s.vs p p+1-g.W≤g.low s.vs p
  omega
 ·show vw s.vs p p=vw s.vs p p+1-1
  omega
theorem NS.Ok.fresh {g:Gr} {p:Nat} {s:NS} (h:s.Ok g p) {f:Fm} (ho:f.org=p) (hs1:f.seq=vw s.vs p p+1):∀ a∈s.st,¬ (a.org=f.org∧a.seq=f.seq):=fun a ha hc=>by
 have:=h.own a ha (by omega)
 omega
theorem NS.Ok.said {g:Gr} {p:Nat} {s:NS} (h:s.Ok g p) (hp:p<g.n) {f:Fm} (hf:f.Ok g) (ho:f.org=p) (hs1:f.seq=vw s.vs p p+1) (hw:f.seq≤g.low s.vs p+g.W):(s.said g p f).Ok g p:=by
 have hne:=h.fresh ho hs1
 have e:f.org.toNat=p:=by omega
 have h1:=h.clk.take hp hf (by rw [e];exact hs1)
 rw [e] at h1
 have h2:=ab9 (x:=f.seq) h.clk.shp hp hp (by omega)
 refine Ok.forget h1 (fun a ha=>?_) (a5j h.sorted hne) (fun a ha=>?_) (fun a ha hao=>?_)
 ·rcases a2s.1 ha with rfl | ha
  ·exact hf
  ·exact h.st a ha
 ·rcases a2s.1 ha with rfl | ha
  ·rw [e]
   have:=h2 p
   omega
  ·have:=(h.win a ha).2
   have:=h2 a.org.toNat
   omega
 ·rw [a2f h.clk.shp hp hp,if_pos ⟨rfl,rfl⟩]
  rcases a2s.1 ha with rfl | ha
  ·exact Int.le_refl _
  ·have:=h.own a ha hao
   omega
theorem NS.Ok.got {g:Gr} {p:Nat} {s:NS} (h:s.Ok g p) (hp:p<g.n) {f:Fm} (hf:f.Ok g) (hop:f.org≠p) (hw:f.seq≤vw s.vs p f.org.toNat+g.W) (hne:∀ a∈s.st,¬ (a.org=f.org∧a.seq=f.seq)):(s.got g p f).Ok g p:=by
 have hl:=hf.low
 have hq:=hf.seq
 obtain ⟨h1,h2⟩:=h.clk.lows hf.lt (x:=f.low) (by omega)
 have hst:∀ a∈insM s.st f,a.Ok g:=fun a ha=>by
  rcases a2s.1 ha with rfl | ha
  ·exact hf
  ·exact h.st a ha
 obtain ⟨h3,h4,h8⟩:=Clk.run hp hst (s.st.length+1) h1
 refine Ok.forget h3 hst (a5j h.sorted hne) (fun a ha=>?_) (fun a ha hao=>?_)
 rotate_left
 ·rcases a2s.1 ha with rfl | ha
  ·exact absurd hao hop
  ·have h9:=h8 p
   rw [a5o h.clk.shp hf.lt _ _ (Nat.le_refl _),if_neg (by omega)] at h9
   have:=h.own a ha hao
   exact Int.le_trans this h9
 have h5:g.low s.vs a.org.toNat≤g.low (s.ran g p f).1 a.org.toNat:=Int.le_trans (h2 _) (h4 _)
 rcases a2s.1 ha with rfl | ha
 ·have h6:a.seq-g.W≤g.low (vlow s.vs p a.org.toNat a.low g.n) a.org.toNat:=by
   refine a5q _ _ _ _ _ (by have:=hf.low;omega) (fun q hq'=>?_)
   rw [a5o h.clk.shp hf.lt _ _ (Nat.le_refl _)]
   split
   ·omega
   ·have e:q=p:=by omega
    subst e
    omega
  have h7:g.low (vlow s.vs p a.org.toNat a.low g.n) a.org.toNat≤g.low (s.ran g p a).1 a.org.toNat:=h4 _
  omega
 ·have:=(h.win a ha).2
  omega
def NS.newK (g:Gr) (p:Nat) (s:NS) (m:Fm):Nat:=if m.seq≤vw s.vs p m.org.toNat then 7 else if s.st.any (fun a=>decide (a.org=m.org∧a.seq=m.seq))=true then 7 else if vw s.vs p m.org.toNat+g.W<m.seq then 8 else 0
theorem a8h {g:Gr} {p:Nat} {s:NS} {f:Fm} (h:s.newK g p f=0):vw s.vs p f.org.toNat<f.seq∧f.seq≤vw s.vs p f.org.toNat+g.W∧∀ a∈s.st,¬ (a.org=f.org∧a.seq=f.seq):=by
 unfold NS.newK at h
 split at h
 ·cases h
 ·split at h
  ·cases h
  ·rename_i h1 h2
   split at h
   ·cases h
   ·rename_i h3
    refine ⟨by omega,by omega,fun a ha hk=>h2 ?_⟩
    rw [List.any_eq_true]
    exact ⟨a,ha,decide_eq_true hk⟩
theorem a7i {α:Type} (k:α→Int) (m:Int):∀ (l:List α) (c:Int),l.Pairwise (fun a b=>k a<k b)→(∀ a∈l,c≤k a∧k a<m)→(l.length:Int)≤max 0 (m-c)
 | [],c,_,_=>by simp;omega
 | a :: l,c,hp,hb=>by
  obtain ⟨h1,h2⟩:=List.pairwise_cons.1 hp
  have h3:=a7i k m l (k a+1) h2 (fun b hb'=>⟨h1 b hb',(hb b (List.mem_cons_of_mem _ hb')).2⟩)
  have h4:=hb a List.mem_cons_self
  rw [List.length_cons]
  omega
theorem NS.Ok.short {g:Gr} {p:Nat} {s:NS} (h:s.Ok g p) (hg:g.Ok):s.st.length≤64:=by
 have h1:=a7i (fun f:Fm=>f.org * g.W+(f.seq-g.low s.vs f.org.toNat-1)) (g.n * g.W) s.st 0 ?_ ?_
 ·have h2:=hg.n.2
  have h3:=hg.W
  have h4:(g.n:Int) * g.W≤8 * 8:=Int.mul_le_mul (by omega) h3.2 (by omega) (by omega)
  omega
 ·refine (List.Pairwise.and_mem.1 h.sorted).imp ?_
  rintro a b ⟨ha,hb,hab⟩
  have h1:=h.win a ha
  have h2:=h.win b hb
  show a.org * g.W+(a.seq-g.low s.vs a.org.toNat-1)<b.org * g.W+(b.seq-g.low s.vs b.org.toNat-1)
  rcases hab with hab | ⟨hab,hab'⟩
  ·have h3:(a.org+1) * g.W≤b.org * g.W:=Int.mul_le_mul_of_nonneg_right (by omega) (by have:=hg.W;omega)
   rw [Int.add_mul] at h3
   omega
  ·rw [hab] at h1 ⊢
   omega
 ·intro a ha
  have h1:=h.win a ha
  have h2:=(h.st a ha).a8a
  have h3:=(h.st a ha).lt
  have h4:0≤a.org * g.W:=Int.mul_nonneg (by omega) (by have:=hg.W;omega)
  have h5:(a.org+1) * g.W≤g.n * g.W:=Int.mul_le_mul_of_nonneg_right (by omega) (by have:=hg.W;omega)
  rw [Int.add_mul] at h5
  show 0≤a.org * g.W+(a.seq-g.low s.vs a.org.toNat-1)∧a.org * g.W+(a.seq-g.low s.vs a.org.toNat-1)<g.n * g.W
  omega
theorem am6 (L:Nat):∀ (n:Nat) (hs:List Wd),(∀ x∈hs,∃ o:Nat,x.org=o∧o<n)→(∀ o,o<n→cntW hs o≤L)→hs.length≤n * L
 | 0,hs,h,_=>by
  cases hs with
  | nil=>simp
  | cons x hs =>
   obtain ⟨o,_,ho⟩:=h x List.mem_cons_self
   omega
 | n+1,hs,h,hc=>by
  have h1:=am6 L n (hs.filter (fun x=>!decide (x.org=(n:Int)))) (fun x hx=>by
   obtain ⟨h1,h2⟩:=List.mem_filter.1 hx
   obtain ⟨o,e,ho⟩:=h x h1
   refine ⟨o,e,?_⟩
   simp at h2
   omega) (fun o ho=>Nat.le_trans (by
    unfold cntW
    rw [List.countP_filter]
    exact List.countP_mono_left (fun x _ hx=>by simp at hx ⊢;exact hx.1)) (hc o (by omega)))
  have h2:=List.length_eq_countP_add_countP (fun x:Wd=>decide (x.org=(n:Int))) (l:=hs)
  have h3:=hc n (by omega)
  rw [←List.countP_eq_length_filter] at h1
  have h4:List.countP (fun a:Wd=>decide ¬decide (a.org=(n:Int))=true) hs=List.countP (fun x:Wd=>!decide (x.org=(n:Int))) hs:=by
   congr 1
   funext x
   simp
  rw [h4] at h2
  unfold cntW at h3
  rw [Nat.succ_mul]
  omega
theorem Clk.short {g:Gr} {p:Nat} {vs:List (List Int)} {hs:List Wd} (h:Clk g p vs hs) (hg:g.Ok) (hp:p<g.n):hs.length≤524280:=by
 have h1:=am6 65535 g.n hs h.hd (fun o ho=>by
  have h1:=h.cnt o ho
  have h2:=h.bd p o hp ho
  have h3:=hg.L
  omega)
 have h2:g.n * 65535≤8 * 65535:=Nat.mul_le_mul_right _ hg.n.2
 omega
end Go.Proofs.YtabecbjfamphbaaGreatDoor
