/- A part of the proof. -/
import Derived.Test.YtabecbjfamphbaaGreatDoorM18
namespace Go.Proofs.YtabecbjfamphbaaGreatDoor
open Go.RowKit Go.Stop Go.Extern
set_option maxRecDepth 100000
def fz:Value:=.agg #[.int .i64 0,.int .i64 0,.int .i64 0,.int .i64 0,.int .i64 0,.slice none 0 0,.string ⟨#[]⟩]
def rAll (n:Nat) (W B L:Int) (s:ByteArray):Option (Option Int):=
 match rSeal n s with
 | some x=>some x
 | none=>rRead n W B L s
def Read (w':World) (base n:Nat) (s:ByteArray) (fv:Value):Prop:=
 (byt s 2=2∧Got w' base n 2 (byt s 4) 0 0 0 (vecOf s 5 n) ⟨#[]⟩ fv)∨(byt s 2=1∧Got w' base n 1 (byt s 4) (byt s 5) (val s 6 2) (val s 8 2) (vecOf s 10 n) (s.extract (11+2 * n) (s.size-4)) fv)
structure Pen (z:Nat) (x:World) (N W B L:Int):Prop where
 c0:x.cell? ⟨z,0,none⟩=some (.int .i64 N)
 c1:x.cell? ⟨z,1,none⟩=some (.int .i64 W)
 c2:x.cell? ⟨z,2,none⟩=some (.int .i64 B)
 c3:x.cell? ⟨z,3,none⟩=some (.int .i64 L)
 s:Slots (z+1) x
 z:z+1<x.heap.size
theorem Pen.below {z:Nat} {x y:World} {N W B L:Int} (h:Pen z x N W B L) {c:Nat} (hb:Below c x y) (hz:z+1<c):Pen z y N W B L:=by
 have e:∀ (b:Nat) (i:Nat),b<c→y.cell? ⟨b,i,none⟩=x.cell? ⟨b,i,none⟩:=fun b i hlt=>hb.cell (p:=⟨b,i,none⟩) hlt
 obtain ⟨k0,k1,k2,k3,hs,hz'⟩:=h
 have hz0:z<c:=by omega
 exact ⟨(e _ _ hz0).trans k0,(e _ _ hz0).trans k1,(e _ _ hz0).trans k2,(e _ _ hz0).trans k3,hs.below hb (by omega),Nat.lt_of_lt_of_le hz' hb.size⟩
theorem a2y (w:World) (N W B L:Int) (tc tr:TypeId) :
  Pen w.heap.size ((w.alloc (.cells #[.int .i64 N,.int .i64 W,.int .i64 B,.int .i64 L] tc)).alloc (.cells #[.int .i64 0,.int .i64 0,.int .i64 0,.int .i64 0,.int .i64 0,.slice none 0 0,.string { data:=#[] }] tr)) N W B L:=by
 refine ⟨?_,?_,?_,?_,?_,?_⟩
 case refine_5 =>
  have:=a4b (w.alloc (.cells #[.int .i64 N,.int .i64 W,.int .i64 B,.int .i64 L] tc)) #[.int .i64 0,.int .i64 0,.int .i64 0,.int .i64 0,.int .i64 0,.slice none 0 0,.string { data:=#[] }] tr rfl
  simp at this
  exact this
 all_goals go_simp
theorem Slots.a05 {b:Nat} {x:World} (h:Slots b x) (v0 v1 v2 v3 v4 v5 v6:Value) (o:Obj) (X:World)
  (hX:X=(((((((x.setCell ⟨b,0,none⟩ v0).setCell ⟨b,1,none⟩ v1).setCell ⟨b,2,none⟩ v2).setCell ⟨b,3,none⟩ v3).setCell ⟨b,4,none⟩ v4).setCell ⟨b,5,none⟩ v5).setCell ⟨b,6,none⟩ v6).alloc o) :
  X.cell? ⟨b,0,none⟩=some v0∧X.cell? ⟨b,1,none⟩=some v1∧X.cell? ⟨b,2,none⟩=some v2∧X.cell? ⟨b,3,none⟩=some v3∧X.cell? ⟨b,4,none⟩=some v4∧X.cell? ⟨b,5,none⟩=some v5∧X.cell? ⟨b,6,none⟩=some v6:=by
 obtain ⟨r0,r1,r2,r3,r4,r5,r6⟩:=Slots.seven h v0 v1 v2 v3 v4 v5 v6 _ rfl
 have hz:b<(((((((x.setCell ⟨b,0,none⟩ v0).setCell ⟨b,1,none⟩ v1).setCell ⟨b,2,none⟩ v2).setCell ⟨b,3,none⟩ v3).setCell ⟨b,4,none⟩ v4).setCell ⟨b,5,none⟩ v5).setCell ⟨b,6,none⟩ v6).heap.size:=by simpa [World.setCell] using h.z
 generalize (((((((x.setCell ⟨b,0,none⟩ v0).setCell ⟨b,1,none⟩ v1).setCell ⟨b,2,none⟩ v2).setCell ⟨b,3,none⟩ v3).setCell ⟨b,4,none⟩ v4).setCell ⟨b,5,none⟩ v5).setCell ⟨b,6,none⟩ v6)=Y at *
 subst hX
 have e:∀ i,(Y.alloc o).cell? ⟨b,i,none⟩=Y.cell? ⟨b,i,none⟩:=fun i=>((Below.refl Y.heap.size Y).alloc (Nat.le_refl _) o).cell (p:=⟨b,i,none⟩) hz
 exact ⟨(e 0).trans r0,(e 1).trans r1,(e 2).trans r2,(e 3).trans r3,(e 4).trans r4,(e 5).trans r5,(e 6).trans r6⟩
set_option maxHeartbeats 2000000 in
theorem af1 (a0 a1:Addr) (N W B L:Int) (s:ByteArray) (w:World) (hw:Sent w a0 a1) (hG:okG N W B L=false) :
  Calls Tryz.prog 140 #[.agg #[.int .i64 N,.int .i64 W,.int .i64 B,.int .i64 L],.string s] w
   fun e w'=>(∃ t,e=.returned (.tuple #[fz,.iface 208 (.agg #[.string t,.iface 298 (.pointer (some a0))])]))∧Below w.heap.size w w':=by
 have HW:Hid (Sent w a0 a1):=hw
 have HG:Hid (okG N W B L=false):=hG
 clear hw hG
 have HP0:Hid _:=a2y w N W B L 26 45
 go_enter Tryz.func140,Tryz.ntmps140
 go_wp2_with fail
 refine (a2v a0 a1 N W B L _ ((HW.out.alloc _).alloc _) HG.out).mono ?_
 rintro e w1 ⟨⟨t,rfl⟩,hb⟩
 have HA1:Hid (Below w.heap.size w w1):=bthen (a09 _ _ _) hb
 have HP1:Hid (Pen w.heap.size w1 N W B L):=HP0.out.below hb HP0.out.z
 clear hb HP0
 have D:=HP1.out
 have fr:=D.s.f
 obtain ⟨u0,hu0⟩:=D.s.r 0 (by omega)
 obtain ⟨u1,hu1⟩:=D.s.r 1 (by omega)
 obtain ⟨u2,hu2⟩:=D.s.r 2 (by omega)
 obtain ⟨u3,hu3⟩:=D.s.r 3 (by omega)
 obtain ⟨u4,hu4⟩:=D.s.r 4 (by omega)
 obtain ⟨u5,hu5⟩:=D.s.r 5 (by omega)
 obtain ⟨u6,hu6⟩:=D.s.r 6 (by omega)
 obtain ⟨c0,c1,c2,c3,_,cz⟩:=D
 go_wp2_with fail
 obtain ⟨r0,r1,r2,r3,r4,r5,r6⟩:=Slots.seven HP1.out.s (.int .i64 0) (.int .i64 0) (.int .i64 0) (.int .i64 0) (.int .i64 0) (.slice none 0 0) (.string ⟨#[]⟩) _ rfl
 refine bodyPost_ret (v:=.tuple #[fz,.iface 208 (.agg #[.string t,.iface 298 (.pointer (some a0))])]) (by unfold fz;simp [results,Tryz.results140,go_sem,r0,r1,r2,r3,r4,r5,r6]) rfl ⟨⟨_,rfl⟩,?_⟩
 exact a0b HA1.out (by omega) _ _ _ _ _ _ _
set_option maxHeartbeats 2000000 in
theorem a4x (a0 a1:Addr) (n:Nat) (W B L:Int) (s:ByteArray) (w:World) (hw:Sent w a0 a1) (hG:okG n W B L=true) (hs:s.size≤maxLen) :
  Calls Tryz.prog 140 #[.agg #[.int .i64 (n:Int),.int .i64 W,.int .i64 B,.int .i64 L],.string s] w
   fun e w'=>(∃ fv v,e=.returned (.tuple #[fv,v])∧FrV fv∧IsF a1 v (rAll n W B L s)∧(∀ x,rAll n W B L s=some x→fv=fz)∧(rAll n W B L s=none→Read w' w.heap.size n s fv))∧Below w.heap.size w w':=by
 have HW:Hid (Sent w a0 a1):=hw
 have HG:Hid (okG n W B L=true):=hG
 have HS:Hid (s.size≤maxLen):=hs
 obtain ⟨h1,h2,-,-,-,-,-,-⟩:=a0u.1 hG
 clear hw hG hs
 have HP0:Hid _:=a2y w n W B L 26 45
 go_enter Tryz.func140,Tryz.ntmps140
 go_wp2_with fail
 refine (a2i n W B L _ HG.out).mono ?_
 rintro e w1 ⟨rfl,hb⟩
 have HA1:Hid (Below w.heap.size w w1):=bthen (a09 _ _ _) hb
 have HP1:Hid (Pen w.heap.size w1 n W B L):=HP0.out.below hb HP0.out.z
 clear hb HP0
 have D:=HP1.out
 have fr:=D.s.f
 obtain ⟨u0,hu0⟩:=D.s.r 0 (by omega)
 obtain ⟨u1,hu1⟩:=D.s.r 1 (by omega)
 obtain ⟨u2,hu2⟩:=D.s.r 2 (by omega)
 obtain ⟨u3,hu3⟩:=D.s.r 3 (by omega)
 obtain ⟨u4,hu4⟩:=D.s.r 4 (by omega)
 obtain ⟨u5,hu5⟩:=D.s.r 5 (by omega)
 obtain ⟨u6,hu6⟩:=D.s.r 6 (by omega)
 obtain ⟨c0,c1,c2,c3,_,cz⟩:=D
 go_wp2_with fail
 refine (af0 a0 a1 n W B L s w1 (HW.out.below HA1.out) h1 h2 HS.out).mono ?_
 rintro e w2 ⟨⟨v,rfl,hv⟩,hb⟩
 have HA2:Hid (Below w.heap.size w w2):=bthen HA1.out hb
 have HP2:Hid (Pen w.heap.size w2 n W B L):=HP1.out.below hb HP1.out.z
 clear hb HP1 HA1
 clear c0 c1 c2 c3 fr hu0 hu1 hu2 hu3 hu4 hu5 hu6 u0 u1 u2 u3 u4 u5 u6 cz
 have D:=HP2.out
 have fr:=D.s.f
 obtain ⟨u0,hu0⟩:=D.s.r 0 (by omega)
 obtain ⟨u1,hu1⟩:=D.s.r 1 (by omega)
 obtain ⟨u2,hu2⟩:=D.s.r 2 (by omega)
 obtain ⟨u3,hu3⟩:=D.s.r 3 (by omega)
 obtain ⟨u4,hu4⟩:=D.s.r 4 (by omega)
 obtain ⟨u5,hu5⟩:=D.s.r 5 (by omega)
 obtain ⟨u6,hu6⟩:=D.s.r 6 (by omega)
 obtain ⟨c0,c1,c2,c3,_,cz⟩:=D
 cases hr:rSeal n s with
 | some x =>
  rw [hr] at hv
  have HV:Hid (IsF a1 v (some x)):=hv
  have HRR:Hid (rAll n W B L s=some x):=by show rAll n W B L s=_;unfold rAll;rw [hr]
  obtain ⟨t,y,rfl⟩:=hv.a1b.2 x rfl
  clear hv hr
  go_wp2_with fail
  obtain ⟨r0,r1,r2,r3,r4,r5,r6⟩:=Slots.seven HP2.out.s (.int .i64 0) (.int .i64 0) (.int .i64 0) (.int .i64 0) (.int .i64 0) (.slice none 0 0) (.string ⟨#[]⟩) _ rfl
  refine bodyPost_ret (v:=.tuple #[fz,.iface t y]) (by unfold fz;simp [results,Tryz.results140,go_sem,r0,r1,r2,r3,r4,r5,r6]) rfl ⟨⟨_,_,rfl,⟨_,_,_,_,_,_,_,_,_,rfl⟩,?_,fun _ _=>rfl,?_⟩,?_⟩
  ·rw [HRR.out];exact HV.out
  ·intro h;rw [HRR.out] at h;cases h
  ·exact a0b HA2.out (by omega) _ _ _ _ _ _ _
 | none =>
  rw [hr] at hv
  obtain rfl:=hv.a1b.1 rfl
  have HL:Hid (9+2 * n≤s.size):=by
   show 9+2 * n≤s.size
   unfold rSeal at hr
   by_cases h:(s.size:Int)<9+2 * (n:Int)
   ·rw [if_pos h] at hr;cases hr
   ·omega
  have HRA:Hid (rAll n W B L s=rRead n W B L s):=by show rAll n W B L s=_;unfold rAll;rw [hr]
  clear hv hr
  go_wp2_with fail
  refine (b4e a0 a1 n W B L s w2 (HW.out.below HA2.out) HG.out HS.out HL.out).mono ?_
  rintro e w3 ⟨⟨fv,v,rfl,hfv,hv,hgot⟩,hb⟩
  obtain ⟨K',F',O',S',L',ad,len,cap,bd,rfl⟩:=hfv
  have HGot:Hid (rRead n W B L s=none→Read w3 w2.heap.size n s _):=hgot
  have HA3:Hid (Below w.heap.size w w3):=bthen HA2.out hb
  have HP3:Hid (Pen w.heap.size w3 n W B L):=HP2.out.below hb HP2.out.z
  have hz23:=hb.size
  clear hgot hb
  clear c0 c1 c2 c3 fr hu0 hu1 hu2 hu3 hu4 hu5 hu6 u0 u1 u2 u3 u4 u5 u6 cz
  have D:=HP3.out
  have fr:=D.s.f
  obtain ⟨u0,hu0⟩:=D.s.r 0 (by omega)
  obtain ⟨u1,hu1⟩:=D.s.r 1 (by omega)
  obtain ⟨u2,hu2⟩:=D.s.r 2 (by omega)
  obtain ⟨u3,hu3⟩:=D.s.r 3 (by omega)
  obtain ⟨u4,hu4⟩:=D.s.r 4 (by omega)
  obtain ⟨u5,hu5⟩:=D.s.r 5 (by omega)
  obtain ⟨u6,hu6⟩:=D.s.r 6 (by omega)
  obtain ⟨c0,c1,c2,c3,_,cz⟩:=D
  cases hr:rRead n W B L s with
  | some x =>
   rw [hr] at hv
   have HV:Hid (IsF a1 v (some x)):=hv
   have HRR:Hid (rAll n W B L s=some x):=HRA.out.trans hr
   obtain ⟨t,y,rfl⟩:=hv.a1b.2 x rfl
   clear hv hr
   go_wp2_with fail
   obtain ⟨r0,r1,r2,r3,r4,r5,r6⟩:=Slots.a05 HP3.out.s (.int .i64 0) (.int .i64 0) (.int .i64 0) (.int .i64 0) (.int .i64 0) (.slice none 0 0) (.string ⟨#[]⟩) (.cells #[.int .i64 K',.int .i64 F',.int .i64 O',.int .i64 S',.int .i64 L',.slice ad len cap,.string bd] 45) _ rfl
   refine bodyPost_ret (v:=.tuple #[fz,.iface t y]) (by unfold fz;simp [results,Tryz.results140,go_sem,r0,r1,r2,r3,r4,r5,r6]) rfl ⟨⟨_,_,rfl,⟨_,_,_,_,_,_,_,_,_,rfl⟩,?_,fun _ _=>rfl,?_⟩,?_⟩
   ·rw [HRR.out];exact HV.out
   ·intro h;rw [HRR.out] at h;cases h
   ·exact bthen (a0b HA3.out (by omega) _ _ _ _ _ _ _) ((Below.refl _ _).alloc (Nat.le_refl _) _)
  | none =>
   rw [hr] at hv
   obtain rfl:=hv.a1b.1 rfl
   have HRR:Hid (rAll n W B L s=none):=HRA.out.trans hr
   have HRd:Hid (rRead n W B L s=none):=hr
   clear hv hr
   go_wp2_with fail
   obtain ⟨r0,r1,r2,r3,r4,r5,r6⟩:=Slots.a05 HP3.out.s (.int .i64 K') (.int .i64 F') (.int .i64 O') (.int .i64 S') (.int .i64 L') (.slice ad len cap) (.string bd) (.cells #[.int .i64 K',.int .i64 F',.int .i64 O',.int .i64 S',.int .i64 L',.slice ad len cap,.string bd] 45) _ rfl
   refine bodyPost_ret (v:=.tuple #[.agg #[.int .i64 K',.int .i64 F',.int .i64 O',.int .i64 S',.int .i64 L',.slice ad len cap,.string bd],.nilIface]) (by simp [results,Tryz.results140,go_sem,r0,r1,r2,r3,r4,r5,r6]) rfl ⟨⟨_,_,rfl,⟨_,_,_,_,_,_,_,_,_,rfl⟩,?_,?_,?_⟩,?_⟩
   ·rw [HRR.out];exact IsF.nil a1
   ·intro x h;rw [HRR.out] at h;cases h
   ·intro _
    have hz2:=HP2.out.z
    rcases HGot.out HRd.out with ⟨h,⟨⟨g,hg,hfe,hrow⟩⟩⟩ | ⟨h,⟨⟨g,hg,hfe,hrow⟩⟩⟩
    ·exact Or.inl ⟨h,⟨⟨g,by omega,hfe,(hrow.set7 (by omega) _ _ _ _ _ _ _).below ((Below.refl _ _).alloc (Nat.le_refl _) _) (hrow.set7 (by omega) _ _ _ _ _ _ _).lt⟩⟩⟩
    ·exact Or.inr ⟨h,⟨⟨g,by omega,hfe,(hrow.set7 (by omega) _ _ _ _ _ _ _).below ((Below.refl _ _).alloc (Nat.le_refl _) _) (hrow.set7 (by omega) _ _ _ _ _ _ _).lt⟩⟩⟩
   ·exact bthen (a0b HA3.out (by omega) _ _ _ _ _ _ _) ((Below.refl _ _).alloc (Nat.le_refl _) _)
end Go.Proofs.YtabecbjfamphbaaGreatDoor
namespace Go.Proofs.YtabecbjfamphbaaGreatDoor
set_option maxRecDepth 100000
namespace Crc
end Crc
theorem b3i (x k j:Nat) (h:j<k):(num x k).getD j 0=UInt8.ofNat (x / 256 ^ (k-1-j)):=by
 induction k generalizing j with
 | zero=>omega
 | succ k ih =>
  cases j with
  | zero=>simp [num]
  | succ j =>
   rw [num,List.getD_cons_succ,ih j (by omega)]
   rw [show k+1-1-(j+1)=k-1-j by omega]
theorem ao9 (l:List UInt8) (i:Nat):byt (txt l) i=(l.getD i 0).toNat:=rfl
theorem b60 (A C:List UInt8) (x k:Nat) (hx:x<256 ^ k):∀ j,j≤k→val (txt (A++(num x k++C))) A.length j=x / 256 ^ (k-j):=by
 intro j
 induction j with
 | zero=>intro _;rw [Nat.sub_zero,Nat.div_eq_of_lt hx];rfl
 | succ j ih =>
  intro hj
  rw [val,ih (by omega),ao9]
  have e1:(A++(num x k++C)).getD (A.length+j) 0=(num x k).getD j 0:=by
   rw [List.getD_eq_getElem?_getD,List.getElem?_append_right (by omega),Nat.add_sub_cancel_left,List.getElem?_append_left (by rw [a0j];omega),List.getD_eq_getElem?_getD]
  rw [e1,b3i x k j (by omega),UInt8.toNat_ofNat']
  rw [show k-j=(k-(j+1))+1 by omega,show k-1-j=k-(j+1) by omega,Nat.pow_succ,←Nat.div_div_eq_div_mul]
  omega
theorem af2 (A C:List UInt8) (x k:Nat) (hx:x<256 ^ k):val (txt (A++(num x k++C))) A.length k=x:=by
 rw [b60 A C x k hx k (Nat.le_refl _)]
 simp
theorem b41 (s:ByteArray) (p j:Nat):∀ m k,m+j+1=k→val s p k / 256 ^ m % 256=byt s (p+j):=by
 intro m
 induction m with
 | zero =>
  intro k he
  obtain rfl:k=j+1:=by omega
  have:=at7 s (p+j)
  simp only [val,Nat.pow_zero,Nat.div_one];omega
 | succ m ih =>
  intro k he
  obtain ⟨k',rfl⟩:∃ k',k=k'+1:=⟨k-1,by omega⟩
  have hb:=at7 s (p+k')
  rw [val,Nat.pow_succ,Nat.mul_comm (256 ^ m) 256,←Nat.div_div_eq_div_mul]
  rw [show (val s p k' * 256+byt s (p+k')) / 256=val s p k' by omega]
  exact ih k' (by omega)
theorem ac8 (s:ByteArray) (p k:Nat) (h:p+k≤s.size):num (val s p k) k=(s.data.toList.drop p).take k:=by
 have hlen:s.data.toList.length=s.size:=by simp
 apply List.ext_getElem
 ·rw [a0j];simp;omega
 ·intro j h1 h2
  rw [a0j] at h1
  have e:(num (val s p k) k)[j]=(num (val s p k) k).getD j 0:=by
   rw [List.getD_eq_getElem?_getD,List.getElem?_eq_getElem (by rw [a0j];exact h1)];rfl
  rw [e,b3i _ _ _ h1]
  have h3:=b41 s p j (k-1-j) k (by omega)
  apply UInt8.toNat_inj.1
  rw [UInt8.toNat_ofNat',show (2:Nat) ^ 8=256 by rfl,h3]
  unfold byt
  rw [List.getElem_take,List.getElem_drop,List.getD_eq_getElem?_getD,List.getElem?_eq_getElem (by omega)]
  rfl
theorem b82 (A C:List UInt8) (b:UInt8):byt (txt (A++b :: C)) A.length=b.toNat:=by
 rw [ao9,List.getD_eq_getElem?_getD,List.getElem?_append_right (Nat.le_refl _),Nat.sub_self];rfl
theorem a6v {x:Int} (h:0≤x) (h2:x<256):((UInt8.ofNat x.toNat).toNat:Int)=x:=by
 rw [UInt8.toNat_ofNat'];omega
theorem a8j (A C:List UInt8) (vs:List Int) (hv:∀ v∈vs,0≤v∧v≤65535):vecOf (txt (A++(a03 vs++C))) A.length vs.length=vs:=by
 apply List.ext_getElem
 ·rw [a06]
 ·intro q h1 h2
  have hq:=hv vs[q] (List.getElem_mem h2)
  have e1:a03 vs=a03 (vs.take q)++(num vs[q].toNat 2++a03 (vs.drop (q+1))):=by
   conv=>lhs;rw [←List.take_append_drop q vs,List.drop_eq_getElem_cons h2,a3c]
   rfl
  have e2:=af2 (A++a03 (vs.take q)) (a03 (vs.drop (q+1))++C) vs[q].toNat 2 (by show _<65536;omega)
  have e3:(A++a03 (vs.take q)).length=A.length+2 * q:=by
   rw [List.length_append,a0g,List.length_take];omega
  rw [e3] at e2
  have e4:A++a03 (vs.take q)++(num vs[q].toNat 2++(a03 (vs.drop (q+1))++C))=A++(a03 vs++C):=by
   rw [e1];simp
  rw [e4] at e2
  have e5:(vecOf (txt (A++(a03 vs++C))) A.length vs.length)[q]=((val (txt (A++(a03 vs++C))) (A.length+2 * q) 2:Nat):Int):=by simp [vecOf]
  rw [e5,e2]
  omega
theorem b7v {a b:ByteArray} (h:a.data.toList=b.data.toList):a=b:=by
 cases a;cases b;simp at h;simp [h]
theorem b5p (A C:List UInt8) (body:ByteArray):(txt (A++(body.data.toList++C))).extract A.length (A.length+body.size)=body:=by
 apply b7v
 rw [ByteArray.data_extract]
 simp [txt]
theorem b3h (P:List UInt8) (n:Nat) (h0:P.getD 0 0=104) (h1:P.getD 1 0=115) (hl:5+2 * n≤P.length):rSeal n (txt (P++num (Crc.sum P) 4))=none∧(txt (P++num (Crc.sum P) 4)).size=P.length+4:=by
 have hsz:(txt (P++num (Crc.sum P) 4)).size=P.length+4:=by rw [a2d,List.length_append,a0j]
 refine ⟨?_,hsz⟩
 unfold rSeal
 have hb:∀ i,i<P.length→byt (txt (P++num (Crc.sum P) 4)) i=(P.getD i 0).toNat:=fun i hi=>by
  rw [ao9,List.getD_eq_getElem?_getD,List.getElem?_append_left hi,List.getD_eq_getElem?_getD]
 have hm:marked (txt (P++num (Crc.sum P) 4))=true:=by
  unfold marked
  rw [hb 0 (by omega),hb 1 (by omega),h0,h1]
  decide
 have hv:val (txt (P++num (Crc.sum P) 4)) P.length 4=Crc.sum P:=by
  have:=af2 P [] (Crc.sum P) 4 (Crc.sum_lt P)
  rwa [List.append_nil] at this
 have ha:a2c (txt (P++num (Crc.sum P) 4))=Crc.sum P:=by
  unfold a2c
  rw [hsz,a6b,Nat.add_sub_cancel,List.take_left']
  rfl
 rw [hsz,if_neg (by omega),hm,Nat.add_sub_cancel,hv,ha]
 simp
theorem b0q {n:Nat} {W B L F O S Lw:Int} {vs:List Int} {body:ByteArray} (hG:okG n W B L=true) (hf:Fits n W B L 2 F O S Lw vs body) :
  rAll n W B L (txt (a04 n 2 F O S Lw vs body))=none∧byt (txt (a04 n 2 F O S Lw vs body)) 2=2∧(byt (txt (a04 n 2 F O S Lw vs body)) 4:Int)=F∧vecOf (txt (a04 n 2 F O S Lw vs body)) 5 n=vs∧(txt (a04 n 2 F O S Lw vs body)).size=9+2 * n:=by
 obtain ⟨h1,h2,h3,h4,h5,h6,h7,h8⟩:=a0u.1 hG
 obtain ⟨f0,f1,hlen,hv,hk⟩:=hf
 rcases hk with ⟨_,rfl,rfl,rfl,hbd⟩ | ⟨k,_⟩
 ·have hb0:body.data.toList=[]:=List.eq_nil_of_length_eq_zero (by simpa using hbd)
  have hH:a0a n 2 F 0 0 0 vs body.size=[104,115,2,UInt8.ofNat n,UInt8.ofNat F.toNat]++a03 vs:=by
   unfold a0a
   simp
  have hL:a04 n 2 F 0 0 0 vs body=([104,115,2,UInt8.ofNat n,UInt8.ofNat F.toNat]++a03 vs)++num (Crc.sum ([104,115,2,UInt8.ofNat n,UInt8.ofNat F.toNat]++a03 vs)) 4:=by
   unfold a04
   rw [hH,hb0,List.append_nil]
  rw [hL]
  have hvl:=a0g vs
  have hn:vs.length=n:=by omega
  obtain ⟨hs,hsz⟩:=b3h ([104,115,2,UInt8.ofNat n,UInt8.ofNat F.toNat]++a03 vs) n rfl rfl (by simp [hvl];omega)
  have hvo:=a8j [104,115,2,UInt8.ofNat n,UInt8.ofNat F.toNat] (num (Crc.sum ([104,115,2,UInt8.ofNat n,UInt8.ofNat F.toNat]++a03 vs)) 4) vs (fun v hm=>by have:=hv v hm;omega)
  rw [←List.append_assoc,hn] at hvo
  have hb2:byt (txt (([104,115,2,UInt8.ofNat n,UInt8.ofNat F.toNat]++a03 vs)++num (Crc.sum ([104,115,2,UInt8.ofNat n,UInt8.ofNat F.toNat]++a03 vs)) 4)) 2=2:=rfl
  have hb3:byt (txt (([104,115,2,UInt8.ofNat n,UInt8.ofNat F.toNat]++a03 vs)++num (Crc.sum ([104,115,2,UInt8.ofNat n,UInt8.ofNat F.toNat]++a03 vs)) 4)) 3=(UInt8.ofNat n).toNat:=rfl
  have hb4:byt (txt (([104,115,2,UInt8.ofNat n,UInt8.ofNat F.toNat]++a03 vs)++num (Crc.sum ([104,115,2,UInt8.ofNat n,UInt8.ofNat F.toNat]++a03 vs)) 4)) 4=(UInt8.ofNat F.toNat).toNat:=rfl
  generalize txt (([104,115,2,UInt8.ofNat n,UInt8.ofNat F.toNat]++a03 vs)++num (Crc.sum ([104,115,2,UInt8.ofNat n,UInt8.ofNat F.toNat]++a03 vs)) 4)=s at *
  have hb3':byt s 3=n:=by rw [hb3,UInt8.toNat_ofNat'];omega
  have hb4':(byt s 4:Int)=F:=by rw [hb4];exact a6v f0 (by omega)
  have hsz':s.size=9+2 * n:=by rw [hsz];simp [hvl];omega
  refine ⟨?_,hb2,hb4',hvo,hsz'⟩
  unfold rAll
  rw [hs]
  simp only
  unfold rRead a2e
  rw [hb2,hb3',hb4']
  have hk:rKind ((2:Nat):Int)=none:=rfl
  have hfr:rFrom n F=none:=if_pos ⟨f0,f1⟩
  rw [hk,hfr]
  simp only [if_true]
  rw [if_pos (by omega),if_pos (by omega),show vecOf s 5 n=vs from hvo]
  exact a4g hlen (a7u hv (fun c=>by omega))
 ·omega
theorem b1z {n:Nat} {W B L F O S Lw:Int} {vs:List Int} {body:ByteArray} (hG:okG n W B L=true) (hf:Fits n W B L 1 F O S Lw vs body) :
  rAll n W B L (txt (a04 n 1 F O S Lw vs body))=none∧byt (txt (a04 n 1 F O S Lw vs body)) 2=1∧(byt (txt (a04 n 1 F O S Lw vs body)) 4:Int)=F∧(byt (txt (a04 n 1 F O S Lw vs body)) 5:Int)=O∧(val (txt (a04 n 1 F O S Lw vs body)) 6 2:Int)=S∧(val (txt (a04 n 1 F O S Lw vs body)) 8 2:Int)=Lw ∧
  vecOf (txt (a04 n 1 F O S Lw vs body)) 10 n=vs∧(txt (a04 n 1 F O S Lw vs body)).extract (11+2 * n) ((txt (a04 n 1 F O S Lw vs body)).size-4)=body∧(txt (a04 n 1 F O S Lw vs body)).size=15+2 * n+body.size:=by
 obtain ⟨h1,h2,h3,h4,h5,h6,h7,h8⟩:=a0u.1 hG
 obtain ⟨f0,f1,hlen,hv,hk⟩:=hf
 rcases hk with ⟨k,_⟩ | ⟨_,o0,o1,s1,s2,l0,l1,l2,hvo0,hbd⟩
 ·omega
 ·have hH:a0a n 1 F O S Lw vs body.size++body.data.toList=[104,115,1,UInt8.ofNat n,UInt8.ofNat F.toNat,UInt8.ofNat O.toNat]++(num S.toNat 2++(num Lw.toNat 2++(a03 vs++(UInt8.ofNat body.size :: body.data.toList)))):=by
   unfold a0a
   simp
  have hL:a04 n 1 F O S Lw vs body=(a0a n 1 F O S Lw vs body.size++body.data.toList)++num (Crc.sum (a0a n 1 F O S Lw vs body.size++body.data.toList)) 4:=rfl
  rw [hL,hH]
  generalize hP:[104,115,1,UInt8.ofNat n,UInt8.ofNat F.toNat,UInt8.ofNat O.toNat]++(num S.toNat 2++(num Lw.toNat 2++(a03 vs++(UInt8.ofNat body.size :: body.data.toList))))=P
  generalize hC:num (Crc.sum P) 4=C
  have hvl:=a0g vs
  have hn:vs.length=n:=by omega
  have hbl:body.data.toList.length=body.size:=by simp
  have hPl:P.length=11+2 * n+body.size:=by rw [←hP];simp [a0j,hvl,hn];omega
  have hCl:C.length=4:=by rw [←hC];exact a0j _ _
  obtain ⟨hs,hsz⟩:=b3h P n (by rw [←hP];rfl) (by rw [←hP];rfl) (by omega)
  rw [hC] at hs hsz
  have e6:=af2 [104,115,1,UInt8.ofNat n,UInt8.ofNat F.toNat,UInt8.ofNat O.toNat] ((num Lw.toNat 2++(a03 vs++(UInt8.ofNat body.size :: body.data.toList)))++C) S.toNat 2 (by show _<65536;omega)
  have e8:=af2 ([104,115,1,UInt8.ofNat n,UInt8.ofNat F.toNat,UInt8.ofNat O.toNat]++num S.toNat 2) ((a03 vs++(UInt8.ofNat body.size :: body.data.toList))++C) Lw.toNat 2 (by show _<65536;omega)
  have e10:=a8j ([104,115,1,UInt8.ofNat n,UInt8.ofNat F.toNat,UInt8.ofNat O.toNat]++(num S.toNat 2++num Lw.toNat 2)) ((UInt8.ofNat body.size :: body.data.toList)++C) vs (fun v hm=>by have:=hv v hm;omega)
  have eb:=b82 ([104,115,1,UInt8.ofNat n,UInt8.ofNat F.toNat,UInt8.ofNat O.toNat]++(num S.toNat 2++(num Lw.toNat 2++a03 vs))) (body.data.toList++C) (UInt8.ofNat body.size)
  have ex:=b5p ([104,115,1,UInt8.ofNat n,UInt8.ofNat F.toNat,UInt8.ofNat O.toNat]++(num S.toNat 2++(num Lw.toNat 2++(a03 vs++[UInt8.ofNat body.size])))) C body
  have a6:[104,115,1,UInt8.ofNat n,UInt8.ofNat F.toNat,UInt8.ofNat O.toNat]++(num S.toNat 2++((num Lw.toNat 2++(a03 vs++(UInt8.ofNat body.size :: body.data.toList)))++C))=P++C:=by rw [←hP];simp
  have a8:([104,115,1,UInt8.ofNat n,UInt8.ofNat F.toNat,UInt8.ofNat O.toNat]++num S.toNat 2)++(num Lw.toNat 2++((a03 vs++(UInt8.ofNat body.size :: body.data.toList))++C))=P++C:=by rw [←hP];simp
  have a10:([104,115,1,UInt8.ofNat n,UInt8.ofNat F.toNat,UInt8.ofNat O.toNat]++(num S.toNat 2++num Lw.toNat 2))++(a03 vs++((UInt8.ofNat body.size :: body.data.toList)++C))=P++C:=by rw [←hP];simp
  have ab:([104,115,1,UInt8.ofNat n,UInt8.ofNat F.toNat,UInt8.ofNat O.toNat]++(num S.toNat 2++(num Lw.toNat 2++a03 vs)))++UInt8.ofNat body.size :: (body.data.toList++C)=P++C:=by rw [←hP];simp
  have ax:([104,115,1,UInt8.ofNat n,UInt8.ofNat F.toNat,UInt8.ofNat O.toNat]++(num S.toNat 2++(num Lw.toNat 2++(a03 vs++[UInt8.ofNat body.size]))))++(body.data.toList++C)=P++C:=by rw [←hP];simp
  rw [a6] at e6
  rw [a8] at e8
  rw [a10] at e10
  rw [ab] at eb
  rw [ax] at ex
  have b2:byt (txt (P++C)) 2=1:=by rw [←hP];rfl
  have b3:byt (txt (P++C)) 3=(UInt8.ofNat n).toNat:=by rw [←hP];rfl
  have b4:byt (txt (P++C)) 4=(UInt8.ofNat F.toNat).toNat:=by rw [←hP];rfl
  have b5:byt (txt (P++C)) 5=(UInt8.ofNat O.toNat).toNat:=by rw [←hP];rfl
  generalize txt (P++C)=s at *
  have b3':byt s 3=n:=by rw [b3,UInt8.toNat_ofNat'];omega
  have b4':(byt s 4:Int)=F:=by rw [b4];exact a6v f0 (by omega)
  have b5':(byt s 5:Int)=O:=by rw [b5];exact a6v o0 (by omega)
  have e6':(val s 6 2:Int)=S:=by
   rw [show [104,115,1,UInt8.ofNat n,UInt8.ofNat F.toNat,UInt8.ofNat O.toNat].length=6 from rfl] at e6
   rw [e6];omega
  have e8':(val s 8 2:Int)=Lw:=by
   rw [show ([104,115,1,UInt8.ofNat n,UInt8.ofNat F.toNat,UInt8.ofNat O.toNat]++num S.toNat 2).length=8 by simp [a0j]] at e8
   rw [e8];omega
  have e10':vecOf s 10 n=vs:=by
   rw [show ([104,115,1,UInt8.ofNat n,UInt8.ofNat F.toNat,UInt8.ofNat O.toNat]++(num S.toNat 2++num Lw.toNat 2)).length=10 by simp [a0j],hn] at e10
   exact e10
  have eb':(byt s (10+2 * n):Int)=body.size:=by
   rw [show ([104,115,1,UInt8.ofNat n,UInt8.ofNat F.toNat,UInt8.ofNat O.toNat]++(num S.toNat 2++(num Lw.toNat 2++a03 vs))).length=10+2 * n by simp [a0j,hvl,hn];omega] at eb
   rw [eb,UInt8.toNat_ofNat'];omega
  have ssz:s.size=15+2 * n+body.size:=by omega
  have ex':s.extract (11+2 * n) (s.size-4)=body:=by
   rw [show ([104,115,1,UInt8.ofNat n,UInt8.ofNat F.toNat,UInt8.ofNat O.toNat]++(num S.toNat 2++(num Lw.toNat 2++(a03 vs++[UInt8.ofNat body.size])))).length=11+2 * n by simp [a0j,hvl,hn];omega] at ex
   rw [ssz,show 15+2 * n+body.size-4=11+2 * n+body.size by omega]
   exact ex
  refine ⟨?_,b2,b4',b5',e6',e8',e10',ex',ssz⟩
  unfold rAll
  rw [hs]
  simp only
  unfold rRead a2q
  rw [b2,b3',b4',b5',e6',e8',e10',eb']
  have hk:rKind ((1:Nat):Int)=none:=rfl
  have hfr:rFrom n F=none:=if_pos ⟨f0,f1⟩
  rw [hk,hfr]
  simp only [if_true]
  rw [if_neg (by omega),if_neg (by omega),show s.size-(15+2 * n)=body.size by omega]
  have hrd:rData n W B L 1 O S Lw vs body.size=none:=by
   unfold rData
   rw [if_neg (fun c=>c ⟨o0,o1⟩),if_neg (by omega),if_neg (by omega),a4g hlen (a7u hv (fun _=>⟨o0,hvo0⟩))]
   simp only [if_neg (show ¬ B<(body.size:Int) by omega)]
  rw [hrd]
  simp
def part (s:ByteArray) (p k:Nat):List UInt8:=(s.data.toList.drop p).take k
theorem a18 (s:ByteArray) (p a b:Nat):part s p (a+b)=part s p a++part s (p+a) b:=by
 unfold part
 rw [List.take_add,List.drop_drop]
theorem a1r (s:ByteArray) (p:Nat) (h:p<s.size):part s p 1=[UInt8.ofNat (byt s p)]:=by
 have hl:p<s.data.toList.length:=by simpa using h
 unfold part byt
 rw [List.drop_eq_getElem_cons hl,List.take_succ_cons,List.take_zero,List.getD_eq_getElem?_getD,List.getElem?_eq_getElem hl]
 simp
theorem b4c (s:ByteArray):part s 0 s.size=s.data.toList:=by
 unfold part
 rw [List.drop_zero]
 exact List.take_of_length_le (by simp)
theorem aw5 (s:ByteArray) (p n:Nat) (h:p+2 * n≤s.size):a03 (vecOf s p n)=part s p (2 * n):=by
 induction n with
 | zero=>simp [vecOf,a03,part]
 | succ n ih =>
  rw [a4r,a3c,ih (by omega),show 2 * (n+1)=2 * n+2 by omega,a18]
  congr 1
  show num ((val s (p+2 * n) 2:Int)).toNat 2++[]=_
  rw [List.append_nil,Int.toNat_natCast]
  exact ac8 s (p+2 * n) 2 (by omega)
theorem a8g {n:Nat} {s:ByteArray} (h:rSeal n s=none):9+2 * n≤s.size∧byt s 0=104∧byt s 1=115∧val s (s.size-4) 4=a2c s:=by
 unfold rSeal at h
 split at h
 ·cases h
 ·rename_i c1
  split at h
  ·cases h
  ·rename_i c2
   split at h
   ·cases h
   ·rename_i c3
    have hm:marked s=true:=by simpa using c2
    obtain ⟨m0,m1⟩:=of_decide_eq_true hm
    exact ⟨by omega,m0,m1,by simpa using c3⟩
theorem as7 {n:Nat} {s:ByteArray} (h:rSeal n s=none):s.data.toList=part s 0 (s.size-4)++num (Crc.sum (part s 0 (s.size-4))) 4:=by
 obtain ⟨h1,_,_,h4⟩:=a8g h
 have e1:=b4c s
 have e2:=a18 s 0 (s.size-4) 4
 rw [show s.size-4+4=s.size by omega,Nat.zero_add] at e2
 rw [←e1,e2]
 congr 1
 have e3:=ac8 s (s.size-4) 4 (by omega)
 rw [h4] at e3
 exact e3.symm
theorem b3l (s:ByteArray) (a b:Nat):(s.extract a b).data.toList=part s a (b-a):=by
 rw [ByteArray.data_extract]
 unfold part
 simp [List.extract_eq_take_drop]
theorem ax6 {n:Nat} {W B L:Int} {s:ByteArray} (h:rAll n W B L s=none) (h2:byt s 2=2) :
  Fits n W B L 2 (byt s 4) 0 0 0 (vecOf s 5 n) ⟨#[]⟩∧a04 n 2 (byt s 4) 0 0 0 (vecOf s 5 n) ⟨#[]⟩=s.data.toList:=by
 unfold rAll at h
 cases hs:rSeal n s with
 | some x=>rw [hs] at h;cases h
 | none =>
  rw [hs] at h
  simp only at h
  obtain ⟨hsz,m0,m1,_⟩:=a8g hs
  unfold rRead at h
  rw [h2,show rKind ((2:Nat):Int)=none from rfl] at h
  simp only at h
  split at h
  ·rename_i h3
   cases hf:rFrom n (byt s 4) with
   | some x=>rw [hf] at h;cases h
   | none =>
    rw [hf] at h
    simp only at h
    rw [if_pos (by omega)] at h
    unfold a2e at h
    split at h
    ·rename_i hz
     obtain ⟨hl,hv⟩:=ae2 h
     have hfr:(0:Int)≤byt s 4∧(byt s 4:Int)<n:=by
      unfold rFrom at hf
      split at hf
      ·assumption
      ·cases hf
     refine ⟨⟨hfr.1,hfr.2,hl,ap9 hv,Or.inl ⟨rfl,rfl,rfl,rfl,rfl⟩⟩,?_⟩
     have hH:a0a n 2 (byt s 4) 0 0 0 (vecOf s 5 n) (ByteArray.size ⟨#[]⟩)++(ByteArray.mk #[]).data.toList=part s 0 (s.size-4):=by
      have e:s.size-4=1+1+1+1+1+2 * n:=by omega
      rw [e,a18,a18,a18,a18,a18,a1r s 0 (by omega),a1r s (0+1) (by omega),a1r s (0+(1+1)) (by omega),a1r s (0+(1+1+1)) (by omega),a1r s (0+(1+1+1+1)) (by omega)]
      rw [show (0:Nat)+(1+1+1+1+1)=5 from rfl,←aw5 s 5 n (by omega)]
      unfold a0a
      simp [m0,m1,h2,h3]
     unfold a04
     rw [hH]
     exact (as7 hs).symm
    ·cases h
  ·cases h
theorem b2b {n:Nat} {W B L:Int} {s:ByteArray} (h:rAll n W B L s=none) (h2:byt s 2=1) :
  Fits n W B L 1 (byt s 4) (byt s 5) (val s 6 2) (val s 8 2) (vecOf s 10 n) (s.extract (11+2 * n) (s.size-4))∧a04 n 1 (byt s 4) (byt s 5) (val s 6 2) (val s 8 2) (vecOf s 10 n) (s.extract (11+2 * n) (s.size-4))=s.data.toList:=by
 unfold rAll at h
 cases hs:rSeal n s with
 | some x=>rw [hs] at h;cases h
 | none =>
  rw [hs] at h
  simp only at h
  obtain ⟨hsz,m0,m1,_⟩:=a8g hs
  unfold rRead at h
  rw [h2,show rKind ((1:Nat):Int)=none from rfl] at h
  simp only at h
  split at h
  ·rename_i h3
   cases hf:rFrom n (byt s 4) with
   | some x=>rw [hf] at h;cases h
   | none =>
    rw [hf] at h
    simp only at h
    rw [if_neg (by omega)] at h
    unfold a2q at h
    split at h
    ·cases h
    ·rename_i hz
     cases hd:rData n W B L 1 (byt s 5) (val s 6 2) (val s 8 2) (vecOf s 10 n) (s.size-(15+2 * n)) with
     | some x=>rw [hd] at h;cases h
     | none =>
      rw [hd] at h
      simp only at h
      split at h
      ·rename_i hb
       have hfr:(0:Int)≤byt s 4∧(byt s 4:Int)<n:=by
        unfold rFrom at hf
        split at hf
        ·assumption
        ·cases hf
       have hbs:(s.extract (11+2 * n) (s.size-4)).size=s.size-(15+2 * n):=by
        rw [ByteArray.size_extract];omega
       have hfit:Fits n W B L 1 (byt s 4) (byt s 5) (val s 6 2) (val s 8 2) (vecOf s 10 n) (s.extract (11+2 * n) (s.size-4)):=by
        apply an0
        unfold a1w
        rw [show rKind (1:Int)=none from rfl,hf]
        simp only
        rw [if_neg (by omega),hbs,hd]
       refine ⟨hfit,?_⟩
       have hH:a0a n 1 (byt s 4) (byt s 5) (val s 6 2) (val s 8 2) (vecOf s 10 n) (s.extract (11+2 * n) (s.size-4)).size++(s.extract (11+2 * n) (s.size-4)).data.toList=part s 0 (s.size-4):=by
        have e:s.size-4=1+1+1+1+1+1+2+2+2 * n+1+(s.size-4-(11+2 * n)):=by omega
        conv=>rhs;rw [e]
        rw [a18,a18,a18,a18,a18,a18,a18,a18,a18,a18,a1r s 0 (by omega),a1r s (0+1) (by omega),a1r s (0+(1+1)) (by omega),a1r s (0+(1+1+1)) (by omega),a1r s (0+(1+1+1+1)) (by omega),a1r s (0+(1+1+1+1+1)) (by omega)]
        rw [show (0:Nat)+(1+1+1+1+1+1)=6 from rfl,show (0:Nat)+(1+1+1+1+1+1+2)=8 from rfl,show (0:Nat)+(1+1+1+1+1+1+2+2)=10 from rfl,show (0:Nat)+(1+1+1+1+1+1+2+2+2 * n)=10+2 * n by omega,show (0:Nat)+(1+1+1+1+1+1+2+2+2 * n+1)=11+2 * n by omega]
        rw [←aw5 s 10 n (by omega),a1r s (10+2 * n) (by omega),b3l,show part s 6 2=num (val s 6 2) 2 from (ac8 s 6 2 (by omega)).symm,show part s 8 2=num (val s 8 2) 2 from (ac8 s 8 2 (by omega)).symm,hbs]
        have hb':byt s (10+2 * n)=s.size-(15+2 * n):=by omega
        unfold a0a
        simp [m0,m1,h2,h3,hb']
       unfold a04
       rw [hH]
       exact (as7 hs).symm
      ·cases h
  ·cases h
theorem ap2 {n:Nat} {W B L:Int} {s:ByteArray} (h:rAll n W B L s=none):byt s 2=2∨byt s 2=1:=by
 unfold rAll at h
 cases hs:rSeal n s with
 | some x=>rw [hs] at h;cases h
 | none =>
  rw [hs] at h
  simp only at h
  unfold rRead rKind at h
  split at h
  ·cases h
  ·rename_i hk
   split at hk
   ·omega
   ·cases hk
end Go.Proofs.YtabecbjfamphbaaGreatDoor
namespace Go.Proofs.YtabecbjfamphbaaGreatDoor
open Go.RowKit Go.Stop Go.Extern
set_option maxRecDepth 100000
def a1c (n:Nat) (t:ByteArray):Fm:=⟨byt t 5,val t 6 2,val t 8 2,vecOf t 10 n,t.extract (11+2 * n) (t.size-4)⟩
structure HR where
 k:Nat
 ps:List Pk
 s:NS
def NS.hear (g:Gr) (p:Nat) (s:NS) (t:ByteArray):HR:=
 match rAll g.n g.W g.B g.L t with
 | some _=>⟨5,[],s⟩
 | none =>
  if byt t 4=p then ⟨6,[],s⟩
  else if byt t 2=1 then
   if byt t 5=p then ⟨6,[],s⟩
   else if s.newK g p (a1c g.n t)=0 then ⟨0,passL (textM g p (a1c g.n t)) p (byt t 5) (byt t 4) g.n,s.got g p (a1c g.n t)⟩
   else ⟨s.newK g p (a1c g.n t),[],s⟩
  else ⟨0,[],s.told g (byt t 4) (vecOf t 5 g.n)⟩
theorem Gr.Ok.okG {g:Gr} (hg:g.Ok):okG g.n g.W g.B g.L=true:=by
 obtain ⟨⟨h1,h2⟩,⟨h3,h4⟩,⟨h5,h6⟩,⟨h7,h8⟩⟩:=hg
 exact a0u.2 ⟨by omega,by omega,h3,h4,h5,h6,h7,h8⟩
theorem aw4 {l:List Int} {P:Int→Prop} (h:∀ v∈l,P v) (i:Nat) (hi:i<l.length):P (l.getD i 0):=by
 rw [List.getD_eq_getElem?_getD,List.getElem?_eq_getElem hi]
 exact h _ (List.getElem_mem _)
theorem ac4 {g:Gr} {t:ByteArray} (h:rAll g.n g.W g.B g.L t=none) (h2:byt t 2=1):(a1c g.n t).Ok g∧byt t 4<g.n:=by
 obtain ⟨⟨f0,f1,hlen,hv,hk⟩,_⟩:=b2b h h2
 rcases hk with ⟨k2,_⟩ | ⟨_,o0,o1,s1,s2,l0,l1,l2,hvv,bd⟩
 ·omega
 ·refine ⟨⟨⟨byt t 5,rfl,by omega⟩,⟨s1,s2⟩,⟨l0,l1,l2⟩,by show (vecOf t 10 g.n).length=g.n;omega,fun q hq=>aw4 hv q (by omega),?_,bd⟩,by omega⟩
  show (vecOf t 10 g.n).getD ((byt t 5:Int)).toNat 0=_
  exact hvv
theorem ae5 {g:Gr} {t:ByteArray} (h:rAll g.n g.W g.B g.L t=none) (h2:byt t 2=2):(∀ o,o<g.n→0≤(vecOf t 5 g.n).getD o 0∧(vecOf t 5 g.n).getD o 0≤g.L)∧byt t 4<g.n:=by
 obtain ⟨⟨f0,f1,hlen,hv,hk⟩,_⟩:=ax6 h h2
 exact ⟨fun o ho=>aw4 hv o (by omega),by omega⟩
theorem NS.Ok.hear {g:Gr} {p:Nat} {s:NS} (h:s.Ok g p) (hp:p<g.n) (t:ByteArray):(s.hear g p t).s.Ok g p:=by
 unfold NS.hear
 cases e:rAll g.n g.W g.B g.L t with
 | some x=>exact h
 | none =>
  simp only
  split
  ·exact h
  ·rename_i h4
   rcases ap2 e with h2 | h2
   ·rw [if_neg (by omega)]
    obtain ⟨h5,h6⟩:=ae5 e h2
    exact h.told h6 h4 h5
   ·rw [if_pos h2]
    obtain ⟨h5,h6⟩:=ac4 e h2
    split
    ·exact h
    ·rename_i h7
     split
     ·rename_i h8
      obtain ⟨h9,h10,h11⟩:=a8h h8
      exact h.got hp h5 (by show (byt t 5:Int)≠p;omega) h10 h11
     ·exact h
theorem b7p {A:Nat→Addr} {v:Value} {x:Option Int} (h:IsF (A 5) v (some x)):a0l A v 5:=by
 rcases h.how with ⟨h,_⟩ | ⟨_,s,rfl⟩ | ⟨p,s,_,rfl⟩
 ·cases h
 ·exact ⟨Or.inr (Or.inl ⟨by omega,by omega,s,rfl⟩)⟩
 ·exact ⟨Or.inr (Or.inr ⟨by omega,by omega,p,s,rfl⟩)⟩
theorem a5n (hs:List Wd):(wrow hs).length=hs.length * 3:=by
 induction hs with
 | nil=>rfl
 | cons x hs ih =>
  show (Wd.cells x++wrow hs).length=_
  rw [List.length_append,ih]
  simp [Wd.cells]
  omega
theorem b4q (hs:List Wd):∀ u∈wrow hs,u.oneCell'=true:=fun u hu=>by
 obtain ⟨x,_,hx⟩:=List.mem_flatMap.1 hu
 simp [Wd.cells] at hx
 rcases hx with rfl | rfl | rfl<;>rfl
set_option maxHeartbeats 1000000 in
theorem a9n (ha:Option Addr) (n cap:Nat) (hs:List Wd) (w:World) (hw:Wds w ha n cap hs) (hn:n≤1000000) :
  Calls Tryz.prog 99 #[.slice ha n cap] w fun e w'=>(∃ v,e=.returned v∧w'.ownsRow w.heap.size 89 3 v n (wrow hs))∧Below w.heap.size w w':=by
 rcases hw.own.2 with ⟨he,h0⟩ | ⟨b,cap',cur,he,_,hh,_⟩
 ·cases he
  have HL:Hid (hs=[]):=List.length_eq_zero_iff.1 hw.wlen
  clear hw hn
  have hnil:=fun w=>Lib.run_eql_slice_nil (P:=Tryz.prog) w 62 89 none 0 0 0 0 Tryz.underlying62
  go_enter Tryz.func99,Tryz.ntmps99
  go_wp2_with fail
  go_ret
  exact ⟨⟨_,rfl,by rw [HL.out];exact World.ownsRow_nil _ _ _ _⟩,Below.refl _ _⟩
 ·cases he
  have HNw:Hid (∀ (x:World),Below w.heap.size w x→∀ (j:Nat) (u:Value),(wrow hs)[j]?=some u→x.cell? ((⟨b,0,none⟩:Addr).add j)=some u):=fun x hx j u hu=>by
   have hadd:(⟨b,0,none⟩:Addr).add j=⟨b,0+j,none⟩:=by unfold Addr.add;split<;>simp_all
   have hj:j<n * 3:=by
    have:=(List.getElem?_eq_some_iff.1 hu).1
    rw [a5n,hw.wlen] at this
    exact this
   rw [hadd,Nat.zero_add,hx.cell (p:=⟨b,j,none⟩) (lt_of_some hh),World.ownsRow.cellAt hw.own j hj]
   exact hu
  have HL:Hid ((wrow hs).length=n * 3):=(show _=_ by rw [a5n,hw.wlen])
  have H1:Hid _:=b4q hs
  clear hw
  obtain ⟨i1,hj,hy0,hy1,hy2⟩:=info_parts Tryz.a6l
  have hnil:=fun w=>Lib.run_eql_slice_nil (P:=Tryz.prog) w 62 89 (some ⟨b,0,none⟩) n cap 0 0 Tryz.underlying62
  go_enter Tryz.func99,Tryz.ntmps99
  go_wp2_with (at_builtin;refine wpList_append_own _ rfl _ _ 62 rfl w.heap.size 89 i1 (.agg #[.int .i64 0,.int .i64 0,.string ⟨#[]⟩]) 3 32 Tryz.underlying62 hj hy0 hy1 hy2 rfl (by decide) _ _ _ rfl (World.ownsRow_made w #[] 0 (Nat.le_refl _) (Nat.zero_le _) rfl) ⟨b,0,none⟩ n cap (wrow hs) rfl HL.out (HNw.out _ (a00 w _)) H1.out ?q4 ?q5 ?q6 ?_)
  case q4=>unfold maxLen;omega
  case q5=>omega
  case q6=>simp
  intro v' w1 hown hgrow _
  have HO:Hid (w1.ownsRow w.heap.size 89 3 v' n (wrow hs)):=(show w1.ownsRow w.heap.size 89 3 v' n (wrow hs) by simpa using hown)
  have HB:Hid (Below w.heap.size w w1):=(a00 w _).grown hgrow (by simp) (fun k hk=>by cases hk;exact Nat.le_refl _)
  obtain ⟨a4,c4,hg4⟩:=a01 HO.out
  subst hg4
  clear hown hgrow
  go_wp2_with fail
  go_ret
  exact ⟨⟨_,rfl,HO.out⟩,HB.out⟩
set_option maxHeartbeats 1000000 in
theorem a6f (b:Nat) (g:Gr) (p:Nat) (s:NS) (F:Nat→Prop) (hg:g.Ok) (hp:p<g.n) (hs:s.Ok g p) (w:World) (h:a0m w b g p s F) :
  Calls Tryz.prog 62 #[.pointer (some ⟨b,0,none⟩)] w fun e w'=>(∃ v,e=.returned v∧w'.ownsRow w.heap.size 89 3 v s.hs.length (wrow s.hs))∧Below w.heap.size w w':=by
 obtain ⟨G,fs,hN,hst,hkf,hFt⟩:=h.how
 have hhl:=hs.clk.short hg hp
 have c7:=hN.c7
 have HC:Hid _:=fun x (hx:Below w.heap.size w x)=>a9n G.ha s.hs.length G.hcap s.hs x (hN.low hx).wd (by omega)
 clear hN hFt h hst hs
 go_enter Tryz.func62,Tryz.ntmps62
 go_wp2_with fail
 refine (HC.out w (Below.refl _ _)).mono ?_
 rintro e w1 ⟨⟨v,rfl,ho⟩,hb⟩
 obtain ⟨a4,c4,hg4⟩:=a01 ho
 subst hg4
 have HO:Hid _:=ho
 clear ho
 go_wp2_with fail
 go_ret
 exact ⟨⟨_,rfl,HO.out⟩,hb⟩
set_option maxHeartbeats 1000000 in
theorem ac2 (b:Nat) (g:Gr) (p:Nat) (s:NS) (F:Nat→Prop) (hg:g.Ok) (hp:p<g.n) (w:World) (h:a0m w b g p s F) :
  Calls Tryz.prog 65 #[.pointer (some ⟨b,0,none⟩)] w fun e w'=>(∃ v,e=.returned v∧w'.ownsRow w.heap.size 3 1 v g.n (irow (s.vs.getD p [])))∧Below w.heap.size w w':=by
 obtain ⟨G,fs,hN,hst,hkf,hFt⟩:=h.how
 have hn:=hg.n
 have HCl:Hid _:=a2x b g.n g.W g.B g.L p G.gv G.rows s.vs w hN.nb hN.nv hp
 have HC:Hid _:=fun m=>a3x ⟨G.rows.getD p 0,0,none⟩ g.n g.n (s.vs.getD p []) (w.drewN m) (show Ints (w.drewN m) _ _ _ from ⟨hN.nv.elen p hp,fun i hi=>⟨_,0,rfl,(hN.nv.each p hp).lt,by rw [Nat.zero_add];exact hN.nv.cell hp hi⟩⟩) (by omega) (by omega)
 clear hN hFt h hst
 go_enter Tryz.func65,Tryz.ntmps65
 go_wp2_with fail
 refine (show Calls _ _ _ _ _ from HCl.out).mono ?_
 rintro e w1 ⟨rfl,m,rfl⟩
 go_wp2_with fail
 refine (show Calls _ _ _ _ _ from HC.out m).mono ?_
 rintro e w2 ⟨⟨v,rfl,ho⟩,hb⟩
 obtain ⟨a4,c4,hg4⟩:=a01 ho
 subst hg4
 have HO:Hid _:=ho
 have HB:Hid (Below w.heap.size w w2):=bthen (below_drewN (Below.refl _ _) m) hb
 clear ho hb
 go_wp2_with fail
 go_ret
 exact ⟨⟨_,rfl,HO.out⟩,HB.out⟩
structure Wrd (w:World) (base:Nat) (v:Value) (hs:List Wd):Prop where
 own:w.ownsRow base 89 3 v hs.length (wrow hs)
theorem Wrd.mono {w:World} {b b':Nat} {v:Value} {hs:List Wd} (h:Wrd w b v hs) (hb:b'≤b):Wrd w b' v hs:=by
 refine ⟨h.own.1,?_⟩
 rcases h.own.2 with h2 | ⟨g,cap,cur,hv,hg,r⟩
 ·exact Or.inl h2
 ·exact Or.inr ⟨g,cap,cur,hv,Nat.le_trans hb hg,r⟩
theorem Wrd.nil (w:World) (base:Nat):Wrd w base (.slice none 0 0) []:=⟨World.ownsRow_nil _ _ _ _⟩
theorem Wrd.alike {w w':World} {base:Nat} {v:Value} {hs:List Wd} {E:Nat→Prop} (h:Wrd w base v hs) (ha:Alike w w' E) (hE:∀ k,base≤k→k<w.heap.size→¬ E k):Wrd w' base v hs:=by
 refine ⟨h.own.1,?_⟩
 rcases h.own.2 with h' | ⟨g',cap',cur,he,hg,hh,hr⟩
 ·exact Or.inl h'
 ·exact Or.inr ⟨g',cap',cur,he,hg,(ha.block g' (lt_of_some hh) (hE g' hg (lt_of_some hh))).trans hh,hr⟩
theorem Wrd.low {w w':World} {base:Nat} {v:Value} {hs:List Wd} (h:Wrd w base v hs) (hb:Below w.heap.size w w'):Wrd w' base v hs:=h.alike (Alike.of_below hb (fun _=>False)) (fun _ _ _ h=>h)
theorem Wrd.block {w:World} {base:Nat} {v:Value} {hs:List Wd} (h:Wrd w base v hs):∀ k,v.ownBlock=some k→base≤k:=by
 intro k hk
 rcases h.own.2 with ⟨rfl,_⟩ | ⟨g,cap,cur,rfl,hg,_⟩
 ·cases hk
 ·cases hk
  exact hg
def wto (fs:List Fr) (k:Nat):List Wd:=(fs.take k).map Fr.word
theorem b05 (fs:List Fr) (k:Nat):(wto fs k).length≤fs.length:=by unfold wto;simp;omega
def NS.kept (s:NS):List Wd:=s.st.map Fm.word
set_option maxHeartbeats 1000000 in
theorem a6g (b:Nat) (g:Gr) (p:Nat) (s:NS) (F:Nat→Prop) (hg:g.Ok) (hs:s.Ok g p) (w:World) (h:a0m w b g p s F) :
  Calls Tryz.prog 64 #[.pointer (some ⟨b,0,none⟩)] w fun e w'=>(∃ v,e=.returned v∧Wrd w' w.heap.size v s.kept)∧Below w.heap.size w w':=by
 obtain ⟨G,fs,hN,hst,hkf,hFt⟩:=h.how
 have hsh:fs.length≤64:=by rw [←List.length_map (f:=Fr.fm),hst];exact hs.short hg
 have HKE:Hid (s.kept=fs.map Fr.word):=by
  show s.kept=_
  unfold NS.kept
  rw [←hst,List.map_map]
  rfl
 have HN:Hid _:=hN
 have c6:=hN.c6
 clear hN hFt h hst hs hkf
 go_enter Tryz.func64,Tryz.ntmps64
 go_wp2_with fail
 go_loopw [3,11] (fun pv c wr=>∃ k:Nat,k≤fs.length∧c=.int .i64 k∧Wrd wr w.heap.size pv (wto fs k)∧Below w.heap.size w wr) (fun _ c _=>fs.length-(intOf c).toNat)
 case atStart=>exact ⟨0,Nat.zero_le _,rfl,Wrd.nil _ _,Below.refl _ _⟩
 case round =>
  obtain ⟨k,hkn,rfl,hps,hbel⟩:=hrel
  have HPS:Hid _:=hps
  have HBel:Hid _:=hbel
  clear hps hbel
  by_cases hlt:k<fs.length
  ·have HNW:Hid _:=HN.out.low HBel.out
   obtain ⟨gb,cur,hga,_⟩:=HNW.out.fr.block (by omega)
   obtain ⟨f,hf⟩:∃ f,fs[k]?=some f:=⟨fs[k],List.getElem?_eq_getElem _⟩
   have hfr:=HNW.out.fr
   rw [hga] at hfr ⊢
   obtain ⟨s0,s1,s2,s3,s4,s5,s6⟩:=hfr.seven hlt hf
   clear hfr hga
   have hki:(k:Int)<(fs.length:Int):=by omega
   have hal:=a00 wr (.cells #[.int .i64 f.kind,.int .i64 f.frm,.int .i64 f.org,.int .i64 f.seq,.int .i64 f.low,.slice f.ad g.n f.cap,.string f.body] 45)
   have HAL:Hid _:=hal
   have HTK:Hid (wto fs (k+1)=wto fs k++[f.word]):=by
    show _=_
    unfold wto
    rw [List.take_add_one,hf,List.map_append]
    rfl
   have HLn:Hid ((wto fs k).length≤64):=Nat.le_trans (b05 _ _) hsh
   obtain ⟨i1,hj,hy0,hy1,hy2⟩:=info_parts Tryz.a6l
   obtain ⟨av,cv,hshape⟩:=a01 HPS.out.own
   subst hshape
   clear hal hf
   go_wp2_with fail
   generalize wr.alloc (.cells #[.int .i64 f.kind,.int .i64 f.frm,.int .i64 f.org,.int .i64 f.seq,.int .i64 f.low,.slice f.ad g.n f.cap,.string f.body] 45)=X at *
   refine (aa0 g.n f X).mono ?_
   rintro e w1 ⟨rfl,hb1⟩
   have HB1:Hid (Below wr.heap.size wr w1):=bthen HAL.out hb1
   have HP1:Hid _:=HPS.out.low HB1.out
   have HW1:Hid (Below w.heap.size w w1):=bthen HBel.out HB1.out
   have hzr:w.heap.size≤w1.heap.size:=HW1.out.size
   clear s0 s1 s2 s3 s4 s5 s6 hb1
   go_wp2_with (at_builtin;refine wpList_append_own _ rfl (.tmp 15) (.tmp 18) 62 rfl w.heap.size 89 i1 _ 3 32 Tryz.underlying62 hj hy0 hy1 hy2 rfl (by decide) _ _ _ rfl (World.ownsRow.alloc HP1.out.own _) ⟨w1.heap.size,0,none⟩ 1 1 [.int .i64 f.org,.int .i64 f.seq,.string f.body] rfl rfl ?c1 ?c2 (by have:=HLn.out;unfold maxLen;omega) (by have:=HLn.out;omega) (by simp;omega) ?_)
   case c1 =>
    intro q u hq
    match q,hq with
    | 0,hq=>simp at hq;subst hq;simp [Addr.add]
    | 1,hq=>simp at hq;subst hq;simp [Addr.add]
    | 2,hq=>simp at hq;subst hq;simp [Addr.add]
   case c2 =>
    intro u hu
    simp at hu
    rcases hu with rfl | rfl | rfl<;>rfl
   intro v4 w4 hown4 hgrow4 _
   have HG4:Hid (Wrd w4 w.heap.size v4 (wto fs (k+1))):=by
    refine ⟨?_⟩
    rw [HTK.out,a3y,List.length_append]
    exact hown4
   have HB4:Hid (Below w.heap.size w w4):=(HW1.out.alloc hzr _).grown hgrow4 (by simp;omega) HP1.out.block
   obtain ⟨a4,c4',hg4⟩:=a01 hown4
   subst hg4
   clear hown4 hgrow4
   go_wp2_with fail
   go_roundw
   case rel=>exact ⟨k+1,by omega,by go_num,HG4.out,HB4.out⟩
   case measure=>simp [intOf];omega
  ·have hkn':k=fs.length:=by omega
   subst hkn'
   unfold wto at HPS
   rw [List.take_length] at HPS
   obtain ⟨av,cv,hshape⟩:=a01 HPS.out.own
   subst hshape
   go_wp2_with fail
   go_ret
   exact ⟨⟨_,rfl,by rw [HKE.out];exact HPS.out⟩,HBel.out⟩
def a4d (g:Gr) (p:Nat) (v:List Int):ByteArray:=txt (encR g.n g.W g.B g.L 2 p 0 0 0 v ⟨#[]⟩).1
def sends (vs:List (List Int)) (q:Nat) (f:Fm):Bool:=decide (f.org≠(q:Int)∧vw vs q f.org.toNat<f.seq)
def tickW (g:Gr) (p:Nat) (vs:List (List Int)) (q:Nat) (fs:List Fm):List Pk:=(fs.filter (sends vs q)).map (fun f=>⟨(q:Int),textM g p f⟩)
def a0z (g:Gr) (p:Nat) (s:NS):Nat→List Pk
 | 0=>[]
 | k+1=>if k=p then a0z g p s k else a0z g p s k++tickW g p s.vs k s.st++[⟨(k:Int),a4d g p (s.vs.getD p [])⟩]
def NS.tick (g:Gr) (p:Nat) (s:NS):List Pk:=a0z g p s g.n
def tickJ (g:Gr) (p:Nat) (s:NS) (fs:List Fr) (k j:Nat):List Pk:=a0z g p s k++tickW g p s.vs k ((fs.take j).map Fr.fm)
theorem aa3 (g:Gr) (p:Nat) (s:NS) (fs:List Fr) (k:Nat):tickJ g p s fs k 0=a0z g p s k:=by simp [tickJ,tickW]
theorem b34 (g:Gr) (p:Nat) (vs:List (List Int)) (q:Nat) (l:List Fm) (f:Fm):tickW g p vs q (l++[f])=tickW g p vs q l++if sends vs q f then [⟨(q:Int),textM g p f⟩] else []:=by
 unfold tickW
 rw [List.filter_append,List.map_append]
 congr 1
 cases h:sends vs q f<;>simp [h]
theorem aa4 {g:Gr} {p:Nat} {s:NS} {fs:List Fr} {k j:Nat} {f:Fr} (h:fs[j]?=some f):tickJ g p s fs k (j+1)=tickJ g p s fs k j++if sends s.vs k f.fm then [⟨(k:Int),textM g p f.fm⟩] else []:=by
 unfold tickJ
 rw [List.take_add_one,h,List.map_append]
 show _++tickW g p s.vs k (_++[f.fm])=_
 rw [b34,List.append_assoc]
theorem a7h (g:Gr) (p:Nat) (vs:List (List Int)) (q:Nat) (l:List Fm):(tickW g p vs q l).length≤l.length:=by
 unfold tickW
 rw [List.length_map]
 exact List.length_filter_le _ _
theorem a5u (g:Gr) (p:Nat) (s:NS) (h:s.st.length≤64) (k:Nat):(a0z g p s k).length≤65 * k:=by
 induction k with
 | zero=>exact Nat.le_refl _
 | succ k ih =>
  unfold a0z
  split
  ·omega
  ·rw [List.length_append,List.length_append]
   have:=a7h g p s.vs k s.st
   simp
   omega
theorem a7j (g:Gr) (p:Nat) (s:NS) (fs:List Fr) (h:s.st.length≤64) (h':fs.length≤64) (k j:Nat):(tickJ g p s fs k j).length≤65 * k+64:=by
 unfold tickJ
 rw [List.length_append]
 have h1:=a5u g p s h k
 have h2:=a7h g p s.vs k ((fs.take j).map Fr.fm)
 rw [List.length_map,List.length_take] at h2
 omega
theorem al7 {g:Gr} {p:Nat} {s:NS} {fs:List Fr} (h:fs.map Fr.fm=s.st) (k:Nat):tickJ g p s fs k fs.length=a0z g p s k++tickW g p s.vs k s.st:=by
 unfold tickJ
 rw [List.take_length,h]
set_option maxHeartbeats 2000000 in
theorem a7m (A:Nat→Addr) (base b:Nat) (g:Gr) (p:Nat) (s:NS) (F:Nat→Prop) (hg:g.Ok) (hp:p<g.n) (hs:s.Ok g p) (w:World) (hw:Sl w A base) (h:a0m w b g p s F) :
  Calls Tryz.prog 94 #[.pointer (some ⟨b,0,none⟩)] w fun e w'=>(∃ v,e=.returned v∧Pks w' w.heap.size v (s.tick g p))∧Below w.heap.size w w':=by
 obtain ⟨G,fs,hN,hst,hkf,hFt⟩:=h.how
 have hsh:fs.length≤64:=by rw [←List.length_map (f:=Fr.fm),hst];exact hs.short hg
 have hn8:=hg.n.2
 have HN:Hid _:=hN
 have HW:Hid _:=hw
 have HS:Hid _:=hs
 have HST:Hid _:=hst
 have HKF:Hid _:=hkf
 obtain ⟨c0,c1,c2,c3,c4,c5,_⟩:=hN.nb
 clear hN hw hs hFt hst hkf h
 go_enter Tryz.func94,Tryz.ntmps94
 go_wp2_with fail
 have HB0:Hid (∀ m,Below w.heap.size w (w.drewN m)):=fun m=>below_drewN (Below.refl _ _) m
 have HCl:Hid (∀ x,Below w.heap.size w x→Calls Tryz.prog 102 #[.pointer (some ⟨b,0,none⟩)] x fun e w'=>e=.returned (.slice (some ⟨G.rows.getD p 0,0,none⟩) g.n g.n)∧∃ m,w'=x.drewN m):=fun x hx=>a2x b g.n g.W g.B g.L p G.gv G.rows s.vs x (HN.out.low hx).nb (HN.out.low hx).nv hp
 have HTx:Hid (∀ x,Below w.heap.size w x→Calls Tryz.prog 153 #[.pointer (some ⟨b,0,none⟩),.agg #[.int .i64 2,.int .i64 (p:Int),.int .i64 0,.int .i64 0,.int .i64 0,.slice (some ⟨G.rows.getD p 0,0,none⟩) g.n g.n,.string ⟨#[]⟩]] x fun e w'=>e=.returned (.string (a4d g p (s.vs.getD p [])))∧Below x.heap.size x w'):=fun x hx=>ae9 (A 1) (A 5) b g.n g.W g.B g.L p G.gv ⟨2,p,0,0,0,some ⟨G.rows.getD p 0,0,none⟩,g.n,s.vs.getD p [],⟨#[]⟩⟩ x (HW.out.low hx).sent (HN.out.low hx).nb (show Ints x _ _ _ from ⟨(HN.out.low hx).nv.elen p hp,fun i hi=>⟨_,0,rfl,((HN.out.low hx).nv.each p hp).lt,by rw [Nat.zero_add];exact (HN.out.low hx).nv.cell hp hi⟩⟩) hn8 (by show (0:Nat)≤_;unfold maxLen;omega)
 have hbz:b<w.heap.size:=lt_of_cell c4
 obtain ⟨sx,hsx⟩:∃ sx,sx=a4d g p (s.vs.getD p []):=⟨_,rfl⟩
 rw [←hsx] at HTx
 have HSX:Hid _:=hsx
 clear hsx
 generalize G.rows.getD p 0=gp at *
 go_region_held3 (fun x=>x.cell? ⟨b,4,none⟩=some (.int .i64 (p:Int))) (first|(exact c4)|(exact (HB1.out.cell (p:=⟨b,4,none⟩) hbz).trans c4) | go_keep) (first|(go_at_call 102;refine (HCl.out _ (HB0.out 1)).mono ?_;rintro e w' ⟨rfl,m,rfl⟩)|(go_at_call 153;refine (HTx.out _ (HB0.out _)).mono ?_;rintro e w1 ⟨rfl,hb1⟩;have HB1:Hid (Below w.heap.size w w1):=bthen (HB0.out _) hb1;clear hb1))
 obtain ⟨d0,d1,d2,d3,d4,d5,_⟩:=(HN.out.low HB1.out).nb
 clear c0 c1 c2 c3 c4 c5
 rename_i hHeld
 clear hHeld
 have HSH:Hid (s.st.length≤64):=HS.out.short hg
 have HTE:Hid (s.tick g p=a0z g p s g.n):=rfl
 obtain ⟨i1,hj,hy0,hy1,hy2⟩:=info_parts Tryz.a13
 go_wp2_with fail
 clear d0 d1 d2 d3 d4 d5
 go_loopw [4,22] (fun pv c wr=>∃ k:Nat,k≤g.n∧c=.int .i64 k∧Pks wr w.heap.size pv (a0z g p s k)∧Below w.heap.size w wr) (fun _ c _=>g.n-(intOf c).toNat)
 case atStart=>exact ⟨0,Nat.zero_le _,rfl,Pks.nil _ _,HB1.out⟩
 case round =>
  obtain ⟨k,hkn,rfl,hps,hbel⟩:=hrel
  have HPS:Hid _:=hps
  have HBel:Hid _:=hbel
  clear hps hbel
  obtain ⟨av,cv,hshape⟩:=a01 HPS.out.own
  subst hshape
  by_cases hlt:k<g.n
  ·have hki:(k:Int)<(g.n:Int):=by omega
   have HNr:Hid _:=HN.out.low HBel.out
   have d4:=HNr.out.nb.c4
   have d6:=HNr.out.c6
   by_cases hkp:k=p
   ·subst hkp
    have HTk:Hid (a0z g k s (k+1)=a0z g k s k):=if_pos rfl
    go_wp2_with fail
    go_roundw
    case rel=>exact ⟨k+1,by omega,by go_num,by rw [HTk.out];exact HPS.out,HBel.out⟩
    case measure=>simp [intOf];omega
   ·have hne:((k:Int) == (p:Int))=false:=by simp;omega
    have HTk:Hid (a0z g p s (k+1)=a0z g p s k++tickW g p s.vs k s.st++[⟨(k:Int),sx⟩]):=by
     show a0z g p s (k+1)=_
     rw [HSX.out]
     exact if_neg hkp
    have HLn:Hid _:=fun j=>a7j g p s fs HSH.out hsh k j
    have HT0:Hid (Pks wr w.heap.size (.slice av (a0z g p s k).length cv) (tickJ g p s fs k 0)):=by rw [aa3];exact HPS.out
    go_wp2_with fail
    clear d4 d6
    go_loopw [4,36] (fun pv c wq=>∃ j:Nat,j≤fs.length∧c=.int .i64 j∧Pks wq w.heap.size pv (tickJ g p s fs k j)∧Below w.heap.size w wq) (fun _ c _=>fs.length-(intOf c).toNat)
    case atStart=>exact ⟨0,Nat.zero_le _,rfl,HT0.out,HBel.out⟩
    case round =>
     obtain ⟨j,hjn,rfl,hps2,hbel2⟩:=hrel
     have HPS2:Hid _:=hps2
     have HBel2:Hid _:=hbel2
     clear hps2 hbel2
     obtain ⟨av2,cv2,hshape2⟩:=a01 HPS2.out.own
     subst hshape2
     by_cases hlt2:j<fs.length
     ·have HNq:Hid _:=HN.out.low HBel2.out
      obtain ⟨gb,cur,hga,_⟩:=HNq.out.fr.block (by omega)
      obtain ⟨f,hf⟩:∃ f,fs[j]?=some f:=⟨fs[j],List.getElem?_eq_getElem _⟩
      have hfm:=List.mem_of_getElem? hf
      obtain ⟨o,hof,hon⟩:=(HS.out.st f.fm (by rw [←HST.out];exact List.mem_map_of_mem hfm)).org
      obtain ⟨kd,fm,org,seq,lo,ad,cp,vec,body⟩:=f
      have hof':org=(o:Int):=hof
      subst hof'
      have hfr:=HNq.out.fr
      rw [hga] at hfr ⊢
      obtain ⟨s0,s1,s2,s3,s4,s5,s6⟩:=hfr.seven hlt2 hf
      simp only at s0 s1 s2 s3 s4 s5 s6
      clear hfr hga hof
      have hji:(j:Int)<(fs.length:Int):=by omega
      have hoi:(o:Int)<(g.n:Int):=by omega
      have HFM:Hid _:=hfm
      have HAL:Hid _:=a00 wr (.cells #[.int .i64 kd,.int .i64 fm,.int .i64 (o:Int),.int .i64 seq,.int .i64 lo,.slice ad g.n cp,.string body] 45)
      have HS7:Hid _:=a05 wr (.int .i64 kd) (.int .i64 fm) (.int .i64 (o:Int)) (.int .i64 seq) (.int .i64 lo) (.slice ad g.n cp) (.string body) 45
      have HTs:Hid _:=aa4 (g:=g) (p:=p) (s:=s) (k:=k) hf
      have HSe:Hid (sends s.vs k (Fr.fm ⟨kd,fm,(o:Int),seq,lo,ad,cp,vec,body⟩)=decide ((o:Int)≠(k:Int)∧vw s.vs k o<seq)):=rfl
      have HTx2:Hid (∀ x,Below w.heap.size w x→Calls Tryz.prog 153 #[.pointer (some ⟨b,0,none⟩),.agg #[.int .i64 kd,.int .i64 fm,.int .i64 (o:Int),.int .i64 seq,.int .i64 lo,.slice ad g.n cp,.string body]] x fun e w'=>e=.returned (.string (textM g p (Fr.fm ⟨kd,fm,(o:Int),seq,lo,ad,cp,vec,body⟩)))∧Below x.heap.size x w'):=fun x hx=>by
       rw [←a8t (f:=⟨kd,fm,(o:Int),seq,lo,ad,cp,vec,body⟩) (HKF.out _ HFM.out).1 (HKF.out _ HFM.out).2]
       exact ae9 (A 1) (A 5) b g.n g.W g.B g.L p G.gv ⟨kd,fm,(o:Int),seq,lo,ad,cp,vec,body⟩ x (HW.out.low hx).sent (HN.out.low hx).nb ((HN.out.low hx).vec _ HFM.out).1.ints hn8 (by
        have h1:=(HS.out.st _ (by rw [←HST.out];exact List.mem_map_of_mem HFM.out)).body
        have h2:=hg.B
        have h3:(body.size:Int)≤g.B:=h1
        show body.size≤_
        unfold maxLen
        omega)
      generalize textM g p (Fr.fm ⟨kd,fm,(o:Int),seq,lo,ad,cp,vec,body⟩)=tx at *
      generalize sends s.vs k (Fr.fm ⟨kd,fm,(o:Int),seq,lo,ad,cp,vec,body⟩)=se at *
      clear hf hfm
      go_wp2_with fail
      clear s0 s1 s2 s3 s4 s5 s6
      obtain ⟨s0,s1,s2,s3,s4,s5,s6,sz⟩:=HS7.out
      generalize hX:wr.alloc (.cells #[.int .i64 kd,.int .i64 fm,.int .i64 (o:Int),.int .i64 seq,.int .i64 lo,.slice ad g.n cp,.string body] 45)=X at *
      have HBX:Hid (Below w.heap.size w X):=bthen HBel2.out HAL.out
      have HNX:Hid _:=HN.out.low HBX.out
      have HPX:Hid (Pks X w.heap.size (.slice av2 (tickJ g p s fs k j).length cv2) (tickJ g p s fs k j)):=HPS2.out.alike (Alike.of_below HAL.out (fun _=>False)) (fun _ _ _ h=>h)
      have e5:=HNX.out.nb.c5
      have er:=HNX.out.nv.row k hlt
      have ec:=HNX.out.nv.cell hlt hon
      generalize G.rows.getD k 0=gk at *
      generalize vw s.vs k o=y at *
      clear hX
      by_cases y1:(o:Int)=(k:Int)
      ·have b1:((o:Int) != (k:Int))=false:=by simp [y1]
       have HSf:Hid (se=false):=HSe.out.trans (decide_eq_false (fun h=>h.1 y1))
       clear HSe
       go_region
       go_wp2_with fail
       go_roundw
       case rel=>exact ⟨j+1,by omega,by go_num,by rw [HTs.out,HSf.out];exact (List.append_nil (tickJ g p s fs k j)).symm ▸ HPX.out.alike (Alike.of_below (below_drewN (Below.refl _ _) _) (fun _=>False)) (fun _ _ _ h=>h),below_drewN HBX.out _⟩
       case measure=>simp [intOf];omega
      ·have b1:((o:Int) != (k:Int))=true:=by simp [y1]
       by_cases y3:y<seq
       ·have HSt:Hid (se=true):=HSe.out.trans (decide_eq_true ⟨y1,y3⟩)
        have b3:decide (y<seq)=true:=decide_eq_true y3
        clear HSe
        go_quiet (fail)
        go_wp2_with fail
        refine (HTx2.out _ (below_drewN HBX.out _)).mono ?_
        rintro e w5 ⟨rfl,hb5⟩
        have HB5:Hid (Below w.heap.size w w5):=bthen (below_drewN HBX.out _) hb5
        have HP5:Hid (Pks w5 w.heap.size (.slice av2 (tickJ g p s fs k j).length cv2) (tickJ g p s fs k j)):=(HPX.out.alike (Alike.of_below (below_drewN (Below.refl _ _) _) (fun _=>False)) (fun _ _ _ h=>h)).alike (Alike.of_below hb5 (fun _=>False)) (fun _ _ _ h=>h)
        have hz5:=HB5.out.size
        clear hb5 s0 s1 s2 s3 s4 s5 s6 sz e5 er ec
        go_wp2_with (at_builtin;refine wpList_append_own _ rfl (.tmp 60) (.tmp 66) 54 rfl w.heap.size 109 i1 _ 2 24 Tryz.underlying54 hj hy0 hy1 hy2 rfl (by decide) _ _ _ rfl (World.ownsRow.alloc HP5.out.own _) ⟨w5.heap.size,0,none⟩ 1 1 [.int .i64 k,.string tx] rfl rfl ?c1 ?c2 (by have:=HLn.out j;unfold maxLen;omega) (by have:=HLn.out j;omega) (by simp;omega) ?_)
        case c1 =>
         intro q u hq
         match q,hq with
         | 0,hq=>simp at hq;subst hq;simp [Addr.add]
         | 1,hq=>simp at hq;subst hq;simp [Addr.add]
        case c2 =>
         intro u hu
         simp at hu
         rcases hu with rfl | rfl<;>rfl
        intro v4 w4 hown4 hgrow4 _
        have HG4:Hid (Pks w4 w.heap.size v4 (tickJ g p s fs k (j+1))):=by
         refine ⟨?_⟩
         rw [HTs.out,HSt.out,if_pos rfl,a0q,List.length_append]
         exact hown4
        have HB4:Hid (Below w.heap.size w w4):=(HB5.out.alloc hz5 _).grown hgrow4 (by simp;omega) HP5.out.block
        obtain ⟨a4,c4',hg4⟩:=a01 hown4
        subst hg4
        clear hown4 hgrow4
        go_wp2_with fail
        go_roundw
        case rel=>exact ⟨j+1,by omega,by go_num,HG4.out,HB4.out⟩
        case measure=>simp [intOf];omega
       ·have HSf:Hid (se=false):=HSe.out.trans (decide_eq_false (fun h=>y3 h.2))
        have b3:decide (y<seq)=false:=decide_eq_false y3
        clear HSe
        go_quiet (fail)
        go_wp2_with fail
        go_roundw
        case rel=>exact ⟨j+1,by omega,by go_num,by rw [HTs.out,HSf.out];exact (List.append_nil (tickJ g p s fs k j)).symm ▸ HPX.out.alike (Alike.of_below (below_drewN (Below.refl _ _) _) (fun _=>False)) (fun _ _ _ h=>h),below_drewN HBX.out _⟩
        case measure=>simp [intOf];omega
     ·have hjn':j=fs.length:=by omega
      subst hjn'
      have hzr:=HBel2.out.size
      go_wp2_with (at_builtin;refine wpList_append_own _ rfl (.tmp 69) (.tmp 73) 54 rfl w.heap.size 109 i1 _ 2 24 Tryz.underlying54 hj hy0 hy1 hy2 rfl (by decide) _ _ _ rfl (World.ownsRow.alloc HPS2.out.own _) ⟨wr.heap.size,0,none⟩ 1 1 [.int .i64 k,.string sx] rfl rfl ?c1 ?c2 (by have:=HLn.out fs.length;unfold maxLen;omega) (by have:=HLn.out fs.length;omega) (by simp;omega) ?_)
      case c1 =>
       intro q u hq
       match q,hq with
       | 0,hq=>simp at hq;subst hq;simp [Addr.add]
       | 1,hq=>simp at hq;subst hq;simp [Addr.add]
      case c2 =>
       intro u hu
       simp at hu
       rcases hu with rfl | rfl<;>rfl
      intro v4 w4 hown4 hgrow4 _
      have HG4:Hid (Pks w4 w.heap.size v4 (a0z g p s (k+1))):=by
       refine ⟨?_⟩
       rw [HTk.out,←al7 HST.out,a0q,List.length_append]
       exact hown4
      have HB4:Hid (Below w.heap.size w w4):=(HBel2.out.alloc hzr _).grown hgrow4 (by simp;omega) HPS2.out.block
      obtain ⟨a4,c4',hg4⟩:=a01 hown4
      subst hg4
      clear hown4 hgrow4
      go_wp2_with fail
      go_roundw
      case rel=>exact ⟨k+1,by omega,by go_num,HG4.out,HB4.out⟩
      case measure=>simp [intOf];omega
  ·have hkn':k=g.n:=by omega
   subst hkn'
   go_wp2_with fail
   go_ret
   exact ⟨⟨_,rfl,by rw [HTE.out];exact HPS.out⟩,HBel.out⟩
structure MNet where
 nd:Nat→NS
 ref:Nat→Int
 bag:List Pk
structure MLay where
 gm:Nat
 mcap:Nat
 wa:Option Addr
 wcap:Nat
 nb:Nat→Nat
 Fp:Nat→Nat→Prop
structure Msh (w:World) (mb:Nat) (g:Gr) (x:MNet) (M:MLay):Prop where
 c0:w.cell? ⟨mb,0,none⟩=some (.slice (some ⟨M.gm,0,none⟩) g.n M.mcap)
 way:Way w mb M.wa M.wcap x.bag
 mty:∃ cur,w.heap[M.gm]?=some (.cells cur 161 (0,0))
 mem:∀ p,p<g.n→w.cell? ⟨M.gm,p * 2,none⟩=some (.pointer (some ⟨M.nb p,0,none⟩))∧w.cell? ⟨M.gm,p * 2+1,none⟩=some (.int .i64 (x.ref p))
 node:∀ p,p<g.n→a0m w (M.nb p) g p (x.nd p) (M.Fp p)
 disj:∀ p q,p<g.n→q<g.n→p≠q→∀ k,M.Fp p k→¬ M.Fp q k
 sep:∀ p,p<g.n→∀ k,M.Fp p k→k≠mb∧k≠M.gm∧¬ onB M.wa k
def MLay.foot (M:MLay) (mb n k:Nat):Prop:=k=mb∨k=M.gm∨onB M.wa k∨∃ p,p<n∧M.Fp p k
theorem Way.alike {w w':World} {mb:Nat} {wa:Option Addr} {wcap:Nat} {bag:List Pk} {E:Nat→Prop} (h:Way w mb wa wcap bag) (ha:Alike w w' E) (h1:¬ E mb) (h2:∀ k,onB wa k→¬ E k):Way w' mb wa wcap bag:=by
 obtain ⟨cur,ht⟩:=h.ty
 refine ⟨ha.cell h.c1 h1,⟨h.own.1,?_⟩,cur,(ha.block mb (lt_of_some ht) h1).trans ht⟩
 rcases h.own.2 with h' | ⟨g,cap',cur',he,hg,hh,hr⟩
 ·exact Or.inl h'
 ·refine Or.inr ⟨g,cap',cur',he,hg,(ha.block g (lt_of_some hh) ?_).trans hh,hr⟩
  cases he
  exact h2 g ⟨0,rfl⟩
theorem Way.lt {w:World} {mb:Nat} {wa:Option Addr} {wcap:Nat} {bag:List Pk} (h:Way w mb wa wcap bag) {k:Nat} (hk:onB wa k):k<w.heap.size:=by
 obtain ⟨off,e⟩:=hk
 rcases h.own.2 with ⟨he,_⟩ | ⟨g,cap',cur',he,_,hh,_⟩
 ·rw [e] at he;cases he
 ·cases he
  cases e
  exact lt_of_some hh
section
variable {w y z:World} {mb:Nat} {g:Gr} {x:MNet} {M:MLay} {F E:Nat→Prop}
theorem Msh.alike (h:Msh w mb g x M) (ha:Alike w y E) (hE:∀ k,M.foot mb g.n k→¬ E k):Msh y mb g x M:=by
 obtain ⟨cur,ht⟩:=h.mty
 have hm:¬ E M.gm:=hE _ (Or.inr (Or.inl rfl))
 exact ⟨ha.cell h.c0 (hE _ (Or.inl rfl)),h.way.alike ha (hE _ (Or.inl rfl)) (fun k hk=>hE k (Or.inr (Or.inr (Or.inl hk)))),⟨cur,(ha.block _ (lt_of_some ht) hm).trans ht⟩,fun p hp=>⟨ha.cell (h.mem p hp).1 hm,ha.cell (h.mem p hp).2 hm⟩,fun p hp=>(h.node p hp).alike ha (fun k hk=>hE k (Or.inr (Or.inr (Or.inr ⟨p,hp,hk⟩)))),h.disj,h.sep⟩
theorem Msh.low (h:Msh w mb g x M) (hb:Below w.heap.size w y):Msh y mb g x M:=h.alike (Alike.of_below hb (fun _=>False)) (fun _ _ h=>h)
theorem Msh.lt (h:Msh w mb g x M) {k:Nat} (hk:M.foot mb g.n k):k<w.heap.size:=by
 rcases hk with rfl | rfl | hk | ⟨p,hp,hk⟩
 ·exact lt_of_cell h.c0
 ·obtain ⟨_,e⟩:=h.mty;exact lt_of_some e
 ·exact h.way.lt hk
 ·exact (h.node p hp).lt hk
theorem Msh.ne (h:Msh w mb g x M):mb≠M.gm:=by
 obtain ⟨_,e⟩:=h.mty
 obtain ⟨_,e'⟩:=h.way.ty
 exact ty_ne e' e (by decide)
theorem Msh.offm (h:Msh w mb g x M):¬ onB M.wa M.gm:=by
 obtain ⟨_,e⟩:=h.mty
 exact h.way.off e (by decide)
structure MAt (w y:World) (mb:Nat) (g:Gr) (F:Nat→Prop) (M:MLay) (x:MNet):Prop where
 msh:Msh y mb g x M
 own:∀ k,M.foot mb g.n k→F k∨w.heap.size≤k
 rest:Alike w y F
theorem MAt.begin (h:Msh w mb g x M) (hF:∀ k,M.foot mb g.n k→F k):MAt w w mb g F M x:=⟨h,fun k hk=>Or.inl (hF k hk),Alike.refl _ _⟩
theorem MAt.low (h:MAt w y mb g F M x) (hb:Below y.heap.size y z):MAt w z mb g F M x:=⟨h.msh.low hb,h.own,h.rest.trans (Alike.of_below hb (fun _=>False)) (fun _ _ h=>h.elim)⟩
theorem MAt.then (h:MAt w y mb g F M x) (ha:Alike y z E) (hE:∀ k,E k→M.foot mb g.n k):Alike w z F:=
 h.rest.trans ha (fun k hk he=>by
  rcases h.own k (hE k he) with h1 | h1
  ·exact h1
  ·omega)
def MNet.put (x:MNet) (p:Nat) (s:NS):MNet:={ x with nd:=fun q=>if q=p then s else x.nd q }
def MLay.put (M:MLay) (p:Nat) (F':Nat→Prop):MLay:={ M with Fp:=fun q=>if q=p then F' else M.Fp q }
theorem MAt.noded (h:MAt w y mb g F M x) {p:Nat} (hp:p<g.n) {s:NS} {v:Value} {ps:List Pk} (hd:Did y z (M.nb p) g p (M.Fp p) s v ps):∃ M',MAt w z mb g F M' (x.put p s)∧M'.gm=M.gm∧M'.wa=M.wa∧M'.mcap=M.mcap∧M'.nb=M.nb:=by
 obtain ⟨⟨F',hn,hF'⟩,ha,_⟩:=hd
 have hm:=h.msh
 have hz:=h.rest.size
 have hoff:∀ k,(k=mb∨k=M.gm∨onB M.wa k)→¬ M.Fp p k:=fun k hk hf=>by
  have:=hm.sep p hp k hf
  rcases hk with e | e | e
  ·exact this.1 e
  ·exact this.2.1 e
  ·exact this.2.2 e
 have hold:∀ k,(k=mb∨k=M.gm∨onB M.wa k)→k<y.heap.size:=fun k hk=>hm.lt (by
  rcases hk with e | e | e
  ·exact Or.inl e
  ·exact Or.inr (Or.inl e)
  ·exact Or.inr (Or.inr (Or.inl e)))
 have hnew:∀ k,F' k→¬ (k=mb∨k=M.gm∨onB M.wa k):=fun k hk hc=>by
  rcases hF' k hk with h1 | h1
  ·exact hoff k hc h1
  ·have:=hold k hc
   omega
 have hget:∀ q,q≠p→(M.put p F').Fp q=M.Fp q:=fun q hq=>if_neg hq
 have hgetp:(M.put p F').Fp p=F':=if_pos rfl
 obtain ⟨cur,ht⟩:=hm.mty
 refine ⟨M.put p F',⟨⟨?_,?_,?_,?_,?_,?_,?_⟩,?_,?_⟩,rfl,rfl,rfl,rfl⟩
 ·exact ha.cell hm.c0 (hoff mb (Or.inl rfl))
 ·exact hm.way.alike ha (hoff mb (Or.inl rfl)) (fun k hk=>hoff k (Or.inr (Or.inr hk)))
 ·exact ⟨cur,(ha.block _ (lt_of_some ht) (hoff _ (Or.inr (Or.inl rfl)))).trans ht⟩
 ·intro q hq
  have h1:=hm.mem q hq
  exact ⟨ha.cell h1.1 (hoff _ (Or.inr (Or.inl rfl))),ha.cell h1.2 (hoff _ (Or.inr (Or.inl rfl)))⟩
 ·intro q hq
  by_cases e:q=p
  ·subst e
   rw [hgetp]
   show a0m z (M.nb q) g q (if q=q then s else x.nd q) F'
   rw [if_pos rfl]
   exact hn
  ·rw [hget q e]
   show a0m z (M.nb q) g q (if q=p then s else x.nd q) _
   rw [if_neg e]
   exact (hm.node q hq).alike ha (fun k hk hf=>hm.disj p q hp hq (fun e'=>e e'.symm) k hf hk)
 ·intro q r hq hr hqr k h1 h2
  by_cases e:q=p
  ·subst e
   rw [hgetp] at h1
   rw [hget r (fun e'=>hqr e'.symm)] at h2
   rcases hF' k h1 with h3 | h3
   ·exact hm.disj q r hp hr hqr k h3 h2
   ·have:=(hm.node r hr).lt h2
    omega
  ·rw [hget q e] at h1
   by_cases e':r=p
   ·subst e'
    rw [hgetp] at h2
    rcases hF' k h2 with h3 | h3
    ·exact hm.disj q r hq hr hqr k h1 h3
    ·have:=(hm.node q hq).lt h1
     omega
   ·rw [hget r e'] at h2
    exact hm.disj q r hq hr hqr k h1 h2
 ·intro q hq k hk
  by_cases e:q=p
  ·subst e
   rw [hgetp] at hk
   have:=hnew k hk
   exact ⟨fun e=>this (Or.inl e),fun e=>this (Or.inr (Or.inl e)),fun e=>this (Or.inr (Or.inr e))⟩
  ·rw [hget q e] at hk
   exact hm.sep q hq k hk
 ·rintro k (e | e | hk | ⟨q,hq,hk⟩)
  ·exact h.own k (Or.inl e)
  ·exact h.own k (Or.inr (Or.inl e))
  ·exact h.own k (Or.inr (Or.inr (Or.inl hk)))
  ·by_cases e:q=p
   ·subst e
    rw [hgetp] at hk
    rcases hF' k hk with h3 | h3
    ·exact h.own k (Or.inr (Or.inr (Or.inr ⟨q,hq,h3⟩)))
    ·exact Or.inr (by omega)
   ·rw [hget q e] at hk
    exact h.own k (Or.inr (Or.inr (Or.inr ⟨q,hq,hk⟩)))
 ·exact h.then ha (fun k hk=>Or.inr (Or.inr (Or.inr ⟨p,hp,hk⟩)))
theorem MAt.laid (h:MAt w y mb g F M x) {bag:List Pk} (hl:Laid y z mb M.wa bag):∃ M',MAt w z mb g F M' { x with bag:=bag }∧M'.gm=M.gm∧M'.mcap=M.mcap∧M'.nb=M.nb∧M'.Fp=M.Fp:=by
 obtain ⟨⟨wa',wcap',hw,hnew⟩,ha,hc0⟩:=hl
 have hm:=h.msh
 have hz:=h.rest.size
 have hgm:¬ (M.gm=mb∨onB M.wa M.gm):=fun hc=>hc.elim (fun e=>hm.ne e.symm) hm.offm
 obtain ⟨cur,ht⟩:=hm.mty
 refine ⟨{ M with wa:=wa',wcap:=wcap' },⟨⟨hc0 _ hm.c0,hw,⟨cur,(ha.block _ (lt_of_some ht) hgm).trans ht⟩,fun p hp=>⟨ha.cell (hm.mem p hp).1 hgm,ha.cell (hm.mem p hp).2 hgm⟩,fun p hp=>(hm.node p hp).alike ha (fun k hk hc=>?_),hm.disj,fun p hp k hk=>?_⟩,?_,?_⟩,rfl,rfl,rfl,rfl⟩
 ·have:=hm.sep p hp k hk
  exact hc.elim this.1 this.2.2
 ·have h1:=hm.sep p hp k hk
  refine ⟨h1.1,h1.2.1,fun hc=>?_⟩
  rcases hnew k hc with h2 | h2
  ·exact h1.2.2 h2
  ·have:=(hm.node p hp).lt hk
   omega
 ·rintro k (e | e | hk | hk)
  ·exact h.own k (Or.inl e)
  ·exact h.own k (Or.inr (Or.inl e))
  ·rcases hnew k hk with h2 | h2
   ·exact h.own k (Or.inr (Or.inr (Or.inl h2)))
   ·exact Or.inr (by omega)
  ·exact h.own k (Or.inr (Or.inr (Or.inr hk)))
 ·exact h.then ha (fun k hk=>by
   rcases hk with e | hk
   ·exact Or.inl e
   ·exact Or.inr (Or.inr (Or.inl hk)))
def MNet.refuse (x:MNet) (p:Nat):MNet:={ x with ref:=fun q=>if q=p then x.ref p+1 else x.ref q }
theorem MAt.refused (h:MAt w y mb g F M x) {p:Nat} (hp:p<g.n):MAt w (y.setCell ⟨M.gm,p * 2+1,none⟩ (.int .i64 (x.ref p+1))) mb g F M (x.refuse p):=by
 have hm:=h.msh
 have ha:=Alike.setCell y ⟨M.gm,p * 2+1,none⟩ (.int .i64 (x.ref p+1))
 obtain ⟨cur,ht⟩:=hm.mty
 have hoth:∀ i v,i≠p * 2+1→y.cell? ⟨M.gm,i,none⟩=some v→(y.setCell ⟨M.gm,p * 2+1,none⟩ (.int .i64 (x.ref p+1))).cell? ⟨M.gm,i,none⟩=some v:=fun i v hi hv=>(World.cell?_setCell_other _ _ _ _ (by intro h;simp only [Addr.mk.injEq] at h;omega)).trans hv
 refine ⟨⟨ha.cell hm.c0 hm.ne,hm.way.alike ha hm.ne (fun k hk e=>hm.offm (by have e':k=M.gm:=e;rw [←e'];exact hk)),⟨_,heap_setCell_same y M.gm _ cur _ _ ht⟩,fun q hq=>⟨hoth _ _ (by omega) (hm.mem q hq).1,?_⟩,fun q hq=>(hm.node q hq).alike ha (fun k hk e=>(hm.sep q hq k hk).2.1 e),hm.disj,hm.sep⟩,h.own,h.then ha (fun k e=>Or.inr (Or.inl e))⟩
 show _=some (Value.int .i64 (if q=p then x.ref p+1 else x.ref q))
 by_cases e:q=p
 ·subst e
  rw [if_pos rfl]
  exact World.cell?_setCell_same _ _ _ (hm.mem q hq).2
 ·rw [if_neg e]
  exact hoth _ _ (by omega) (hm.mem q hq).2
end
end Go.Proofs.YtabecbjfamphbaaGreatDoor
