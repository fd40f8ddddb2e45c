/- A part of the proof. -/
import Derived.Test.YtabecbjfamphbaaGreatDoorM32
import Derived.Test.YtabecbjfamphbaaGreatDoorM30
namespace Go.Proofs.YtabecbjfamphbaaGreatDoor
open Go.RowKit Go.Stop Go.Extern
set_option maxRecDepth 100000
set_option maxHeartbeats 4000000
structure Tab (z g:Nat) (x:World) (N W B L:Int) (v0 v1 v2 v3 v4 v5 v6:Value):Prop where
 pen:Pen z x N W B L
 sev:Seven g x v0 v1 v2 v3 v4 v5 v6
 fr:∀ i,x.frozen? ⟨g,i,none⟩=false
 hz:z+1<g
theorem Tab.below {z g:Nat} {x y:World} {N W B L:Int} {v0 v1 v2 v3 v4 v5 v6:Value} (h:Tab z g x N W B L v0 v1 v2 v3 v4 v5 v6) {c:Nat} (hb:Below c x y) (hc:g<c):Tab z g y N W B L v0 v1 v2 v3 v4 v5 v6:=by
 obtain ⟨hp,hs,hf,hz⟩:=h
 exact ⟨hp.below hb (by omega),hs.below hb hc,fun i=>(hb.frozen (p:=⟨g,i,none⟩) hc).trans (hf i),hz⟩
theorem Pen.other {z:Nat} {x:World} {N W B L:Int} (h:Pen z x N W B L) {a:Addr} (v:Value) (ha:z+1<a.block):Pen z (x.setCell a v) N W B L:=by
 obtain ⟨k0,k1,k2,k3,⟨sr,sf,sz⟩,hz⟩:=h
 have e:∀ (b i:Nat),b≠a.block→(x.setCell a v).cell? ⟨b,i,none⟩=x.cell? ⟨b,i,none⟩:=fun b i hne=>World.cell?_of_block (w:=x) (heap_setCell_other x a b v hne)
 have h0:z≠a.block:=by omega
 refine ⟨(e _ _ h0).trans k0,(e _ _ h0).trans k1,(e _ _ h0).trans k2,(e _ _ h0).trans k3,⟨fun i hi=>?_,fun i=>(a1x _ _ _ _).trans (sf i),by simpa [World.setCell] using sz⟩,by simpa [World.setCell] using hz⟩
 obtain ⟨u,hu⟩:=sr i hi
 exact ⟨u,(e _ _ (by omega)).trans hu⟩
theorem Tab.set5 {z g:Nat} {x:World} {N W B L:Int} {v0 v1 v2 v3 v4 v5 v6:Value} (h:Tab z g x N W B L v0 v1 v2 v3 v4 v5 v6) (v:Value):Tab z g (x.setCell ⟨g,5,none⟩ v) N W B L v0 v1 v2 v3 v4 v v6:=by
 obtain ⟨hp,⟨c0,c1,c2,c3,c4,c5,c6,cz⟩,hf,hz⟩:=h
 refine ⟨hp.other _ hz,?_,fun i=>(a1x _ _ _ _).trans (hf i),hz⟩
 refine ⟨?_,?_,?_,?_,?_,?_,?_,by simpa [World.setCell] using cz⟩<;>go_simp
theorem aj2 {z:Nat} {x:World} {N W B L:Int} (h:Pen z x N W B L) (v0 v1 v2 v3 v4 v5 v6:Value) (t:TypeId):Tab z x.heap.size (x.alloc (.cells #[v0,v1,v2,v3,v4,v5,v6] t)) N W B L v0 v1 v2 v3 v4 v5 v6:=
 ⟨h.below ((Below.refl _ _).alloc (Nat.le_refl _) _) h.z,a05 _ _ _ _ _ _ _ _ _,fun i=>frozen_of_row _ _ i _ t (heap_alloc_new _ _),h.z⟩
theorem a4o (n:Nat) (W B L:Int) (s:ByteArray) (w:World) (hG:okG n W B L=true) (hs:s.size≤maxLen) (hat:refAt n W B L s<0) (hk:byt s 2=2) :
  Calls Tryz.prog 164 #[.agg #[.int .i64 (n:Int),.int .i64 W,.int .i64 B,.int .i64 L],.string s] w
   fun e w'=>(∃ v,e=.returned (.tuple #[.agg #[.int .i64 2,.int .i64 (byt s 4),.int .i64 0,.int .i64 0,.int .i64 0,v,.string ⟨#[]⟩],.int .i64 0,.int .i64 0])∧OwnI w' w.heap.size v (vecOf s 5 n))∧Below w.heap.size w w':=by
 obtain ⟨h1,h2,h3,h4,-,-,-,-⟩:=a0u.1 hG
 have HC:Hid (∀ x,Calls Tryz.prog 158 #[.agg #[.int .i64 (n:Int),.int .i64 W,.int .i64 B,.int .i64 L]] x fun e w'=>e=.returned (.int .i64 0)∧Below x.heap.size x w'):=fun x=>by
  have:=a14 n W B L x
  rw [hG] at this
  exact this
 have HO:Hid (∀ x,Calls Tryz.prog 199 #[.agg #[.int .i64 (n:Int),.int .i64 W,.int .i64 B,.int .i64 L],.string s] x fun e w'=>e=.returned (.int .i64 (outR n s))∧Below x.heap.size x w'):=fun x=>a8b n W B L s x (by omega) (by omega) hs
 clear hG
 have co:outR n s<0:=by
  unfold refAt at hat
  by_cases co:outR n s<0
  ·exact co
  ·rw [if_neg co] at hat;omega
 have hsz:9+2 * n≤s.size:=by rcases ad5 co with ⟨k,hl⟩ | ⟨k,hl⟩<;>omega
 have HIn:Hid (∀ x,Calls Tryz.prog 200 #[.agg #[.int .i64 (n:Int),.int .i64 W,.int .i64 B,.int .i64 L],.string s] x fun e w'=>e=.returned (.int .i64 (refAt n W B L s))∧Below x.heap.size x w'):=fun x=>by
  unfold refAt
  rw [if_pos co,if_neg (by omega)]
  exact a8q n W B L s x (by omega) (by omega) hs (by omega) hk
 generalize outR n s=p1 at *
 generalize refAt n W B L s=p2 at *
 have HS:Hid (s.size≤maxLen):=hs
 unfold maxLen at hs
 have HP0:Hid _:=a2y w n W B L 26 45
 have hi2:2<s.size:=by omega
 have hi4:4<s.size:=by omega
 have hi2i:(2:Int)<s.size:=by omega
 have hi4i:(4:Int)<s.size:=by omega
 have H4:Hid (byt s 4=s[4].toNat):=a1m s 4 hi4
 have hb2:=s[2].toNat_lt
 have hb4:=s[4].toNat_lt
 rw [a1m s 2 hi2] at hk
 go_enter Tryz.func164,Tryz.ntmps164
 go_wp2_with fail
 refine (HC.out _).mono ?_
 rintro e w1 ⟨rfl,hb⟩
 have HA1:Hid (Below w.heap.size w w1):=bthen (a09 _ _ _) hb
 have HP1:Hid (Pen w.heap.size w1 n W B L):=HP0.out.below hb HP0.out.z
 clear hb HP0
 have D:=HP1.out
 have fr:=D.s.f
 obtain ⟨u0,hu0⟩:=D.s.r 0 (by omega)
 obtain ⟨u1,hu1⟩:=D.s.r 1 (by omega)
 obtain ⟨u2,hu2⟩:=D.s.r 2 (by omega)
 obtain ⟨u3,hu3⟩:=D.s.r 3 (by omega)
 obtain ⟨u4,hu4⟩:=D.s.r 4 (by omega)
 obtain ⟨u5,hu5⟩:=D.s.r 5 (by omega)
 obtain ⟨u6,hu6⟩:=D.s.r 6 (by omega)
 obtain ⟨c0,c1,c2,c3,_,cz⟩:=D
 go_wp2_with fail
 refine (HO.out _).mono ?_
 rintro e w2 ⟨rfl,hb⟩
 have HA2:Hid (Below w.heap.size w w2):=bthen HA1.out hb
 have HP2:Hid (Pen w.heap.size w2 n W B L):=HP1.out.below hb HP1.out.z
 clear hb HP1 HA1
 clear c0 c1 c2 c3 fr hu0 hu1 hu2 hu3 hu4 hu5 hu6 u0 u1 u2 u3 u4 u5 u6 cz
 have D:=HP2.out
 have fr:=D.s.f
 obtain ⟨u0,hu0⟩:=D.s.r 0 (by omega)
 obtain ⟨u1,hu1⟩:=D.s.r 1 (by omega)
 obtain ⟨u2,hu2⟩:=D.s.r 2 (by omega)
 obtain ⟨u3,hu3⟩:=D.s.r 3 (by omega)
 obtain ⟨u4,hu4⟩:=D.s.r 4 (by omega)
 obtain ⟨u5,hu5⟩:=D.s.r 5 (by omega)
 obtain ⟨u6,hu6⟩:=D.s.r 6 (by omega)
 obtain ⟨c0,c1,c2,c3,_,cz⟩:=D
 go_wp2_with fail
 refine (HIn.out _).mono ?_
 rintro e w3 ⟨rfl,hb⟩
 have HA3:Hid (Below w.heap.size w w3):=bthen HA2.out hb
 have HP3:Hid (Pen w.heap.size w3 n W B L):=HP2.out.below hb HP2.out.z
 clear hb HP2 HA2 HC HO HIn
 clear c0 c1 c2 c3 fr hu0 hu1 hu2 hu3 hu4 hu5 hu6 u0 u1 u2 u3 u4 u5 u6 cz
 have D:=HP3.out
 have fr:=D.s.f
 obtain ⟨u0,hu0⟩:=D.s.r 0 (by omega)
 obtain ⟨u1,hu1⟩:=D.s.r 1 (by omega)
 obtain ⟨u2,hu2⟩:=D.s.r 2 (by omega)
 obtain ⟨u3,hu3⟩:=D.s.r 3 (by omega)
 obtain ⟨u4,hu4⟩:=D.s.r 4 (by omega)
 obtain ⟨u5,hu5⟩:=D.s.r 5 (by omega)
 obtain ⟨u6,hu6⟩:=D.s.r 6 (by omega)
 obtain ⟨c0,c1,c2,c3,_,cz⟩:=D
 go_wp2_with fail
 go_region
 generalize s[4].toNat=k4 at *
 have hT:=aj2 HP3.out (.int .i64 2) (.int .i64 k4) (.int .i64 0) (.int .i64 0) (.int .i64 0) (.slice none 0 0) (.string ⟨#[]⟩) 45
 have hal:Below w3.heap.size w3 (w3.alloc (.cells #[.int .i64 2,.int .i64 (k4:Int),.int .i64 0,.int .i64 0,.int .i64 0,.slice none 0 0,.string ⟨#[]⟩] 45)):=(Below.refl _ _).alloc (Nat.le_refl _) _
 generalize hXX:w3.alloc (.cells #[.int .i64 2,.int .i64 (k4:Int),.int .i64 0,.int .i64 0,.int .i64 0,.slice none 0 0,.string ⟨#[]⟩] 45)=X at *
 have HTX:Hid (Tab w.heap.size w3.heap.size X.drew n W B L _ _ _ _ _ _ _):=hT.below (c:=X.heap.size) (Below.refl _ _).drew hT.sev.z
 have HAX:Hid (Below w.heap.size w X.drew):=(bthen HA3.out hal).drew
 generalize w3.heap.size=g at *
 clear hT hal hXX HP3
 clear c0 c1 c2 c3 fr hu0 hu1 hu2 hu3 hu4 hu5 hu6 cz
 generalize X.drew=X1 at *
 have T1:=HTX.out
 obtain ⟨⟨c0,c1,c2,c3,_,_⟩,⟨e0,e1,e2,e3,e4,e5,e6,ez⟩,ef,eg⟩:=T1
 go_wp2_with fail
 clear c0 c1 c2 c3 e0 e1 e2 e3 e4 e5 e6 ez ef
 obtain ⟨i0,hi,hz0,hz1,hz2⟩:=info_parts Tryz.a3d
 go_loopw [11] (fun c wr=>∃ (k:Nat) (v:Value),k≤n∧c=.int .i64 k∧OwnI wr (g+1) v (vecOf s 5 k)∧Tab w.heap.size g wr n W B L (.int .i64 2) (.int .i64 k4) (.int .i64 0) (.int .i64 0) (.int .i64 0) v (.string ⟨#[]⟩)∧Below w.heap.size w wr) (fun c _=>n-(intOf c).toNat)
 case atStart=>exact ⟨0,.slice none 0 0,Nat.zero_le _,rfl,World.ownsRow_nil _ _ _ _,HTX.out,HAX.out⟩
 case round =>
  obtain ⟨k,v,hkn,rfl,hown,htab,hbel⟩:=hrel
  obtain ⟨av,cv,hve⟩:=hown.shape
  rw [a06] at hve
  subst hve
  have HOwn:Hid (OwnI wr (g+1) (.slice av k cv) (vecOf s 5 k)):=hown
  have HTab:Hid (Tab w.heap.size g wr n W B L (.int .i64 2) (.int .i64 k4) (.int .i64 0) (.int .i64 0) (.int .i64 0) (.slice av k cv) (.string ⟨#[]⟩)):=htab
  have HBel:Hid (Below w.heap.size w wr):=hbel
  obtain ⟨⟨c0,c1,c2,c3,⟨sr,sf,_⟩,_⟩,⟨e0,e1,e2,e3,e4,e5,e6,ez⟩,ef,_⟩:=htab
  clear hown hbel
  by_cases hlt:k<n
  ·have HX:Hid (∀ w,Calls Tryz.prog 201 #[.string s,.int .i64 ((5:Int)+2 * (k:Int)),.int .i64 2] w fun e w'=>e=.returned (.int .i64 (val s (5+2 * k) 2))∧w'=w):=fun w=>a19 s ((5:Int)+2 * (k:Int)) 2 (5+2 * k) 2 (by omega) rfl w HS.out (by omega) (by omega)
   have HV:Hid (vecOf s 5 (k+1)=vecOf s 5 k++[(val s (5+2 * k) 2:Int)]):=a4r s 5 k
   have HL:Hid ((vecOf s 5 k).length=k):=a06 s 5 k
   generalize val s (5+2 * k) 2=y at *
   clear sr sf
   go_wp2_with fail
   refine (HX.out _).mono ?_
   rintro e w' ⟨rfl,rfl⟩
   go_wp2_with (at_builtin;refine wpList_append_own _ rfl (.tmp 74) (.tmp 76) 34 rfl (g+1) 3 i0 (.int .i64 0) 1 8 Tryz.underlying34 hi hz0 hz1 hz2 rfl (by decide) _ _ _ rfl (HOwn.out.alloc _) ⟨w'.heap.size,0,none⟩ 1 1 [.int .i64 (y:Int)] rfl rfl ?c1 ?c2 ?c3 ?c4 ?c5 ?_)
   case c1 =>
    intro q u hq
    match q,hq with
    | 0,hq=>simp at hq;subst hq;simp [Addr.add]
   case c2=>intro u hu;simp at hu;subst hu;rfl
   case c3=>rw [HL.out];unfold maxLen;omega
   case c4=>rw [HL.out];omega
   case c5=>simp;omega
   ·intro v' w5 hown' hgrow _
    have R:=OwnI.snoc (y:Int) _ HOwn.out hown' hgrow (by omega)
    rw [←HV.out] at R
    obtain ⟨av',cv',hve⟩:=R.1.shape
    rw [a06] at hve
    subst hve
    have HO5:Hid (OwnI w5 (g+1) (.slice av' (k+1) cv') (vecOf s 5 (k+1))):=R.1
    have HB5:Hid (Below (g+1) w' w5):=R.2
    have HT5:Hid _:=HTab.out.below R.2 (Nat.lt_succ_self g)
    have hT5:=HT5.out
    clear hown' hgrow R c0 c1 c2 c3 e0 e1 e2 e3 e4 e5 e6 ez ef
    obtain ⟨⟨c0,c1,c2,c3,_,_⟩,⟨e0,e1,e2,e3,e4,e5,e6,ez⟩,ef,_⟩:=hT5
    go_wp2_with fail
    go_roundw
    case rel=>exact ⟨k+1,.slice av' (k+1) cv',by omega,by go_num,HO5.out.other (Nat.lt_succ_self g) _,HT5.out.set5 (.slice av' (k+1) cv'),(HBel.out.trans (HB5.out.mono (by omega))).setCell (by show w.heap.size≤g;omega) _⟩
    case measure=>simp [intOf];omega
  ·have hkn':k=n:=by omega
   subst hkn'
   have fr:=sf
   obtain ⟨u0,hu0⟩:=sr 0 (by omega)
   obtain ⟨u1,hu1⟩:=sr 1 (by omega)
   obtain ⟨u2,hu2⟩:=sr 2 (by omega)
   obtain ⟨u3,hu3⟩:=sr 3 (by omega)
   obtain ⟨u4,hu4⟩:=sr 4 (by omega)
   obtain ⟨u5,hu5⟩:=sr 5 (by omega)
   obtain ⟨u6,hu6⟩:=sr 6 (by omega)
   go_wp2_with fail
   obtain ⟨r0,r1,r2,r3,r4,r5,r6⟩:=Slots.seven HTab.out.pen.s (.int .i64 2) (.int .i64 k4) (.int .i64 0) (.int .i64 0) (.int .i64 0) (.slice av k cv) (.string ⟨#[]⟩) _ rfl
   refine bodyPost_ret (v:=.tuple #[.agg #[.int .i64 2,.int .i64 k4,.int .i64 0,.int .i64 0,.int .i64 0,.slice av k cv,.string ⟨#[]⟩],.int .i64 0,.int .i64 0]) (by simp [results,Tryz.results164,go_sem,r0,r1,r2,r3,r4,r5,r6]) rfl ⟨⟨.slice av k cv,by rw [H4.out],?_⟩,?_⟩
   ·exact (HOwn.out.set7 (by omega) _ _ _ _ _ _ _).mono (by omega)
   ·exact a0b HBel.out (by omega) _ _ _ _ _ _ _
theorem Tab.set2 {z g:Nat} {x:World} {N W B L:Int} {v0 v1 v2 v3 v4 v5 v6:Value} (h:Tab z g x N W B L v0 v1 v2 v3 v4 v5 v6) (v:Value):Tab z g (x.setCell ⟨g,2,none⟩ v) N W B L v0 v1 v v3 v4 v5 v6:=by
 obtain ⟨hp,⟨c0,c1,c2,c3,c4,c5,c6,cz⟩,hf,hz⟩:=h
 refine ⟨hp.other _ hz,?_,fun i=>(a1x _ _ _ _).trans (hf i),hz⟩
 refine ⟨?_,?_,?_,?_,?_,?_,?_,by simpa [World.setCell] using cz⟩<;>go_simp
theorem Tab.set3 {z g:Nat} {x:World} {N W B L:Int} {v0 v1 v2 v3 v4 v5 v6:Value} (h:Tab z g x N W B L v0 v1 v2 v3 v4 v5 v6) (v:Value):Tab z g (x.setCell ⟨g,3,none⟩ v) N W B L v0 v1 v2 v v4 v5 v6:=by
 obtain ⟨hp,⟨c0,c1,c2,c3,c4,c5,c6,cz⟩,hf,hz⟩:=h
 refine ⟨hp.other _ hz,?_,fun i=>(a1x _ _ _ _).trans (hf i),hz⟩
 refine ⟨?_,?_,?_,?_,?_,?_,?_,by simpa [World.setCell] using cz⟩<;>go_simp
theorem Tab.set4 {z g:Nat} {x:World} {N W B L:Int} {v0 v1 v2 v3 v4 v5 v6:Value} (h:Tab z g x N W B L v0 v1 v2 v3 v4 v5 v6) (v:Value):Tab z g (x.setCell ⟨g,4,none⟩ v) N W B L v0 v1 v2 v3 v v5 v6:=by
 obtain ⟨hp,⟨c0,c1,c2,c3,c4,c5,c6,cz⟩,hf,hz⟩:=h
 refine ⟨hp.other _ hz,?_,fun i=>(a1x _ _ _ _).trans (hf i),hz⟩
 refine ⟨?_,?_,?_,?_,?_,?_,?_,by simpa [World.setCell] using cz⟩<;>go_simp
theorem Tab.set6 {z g:Nat} {x:World} {N W B L:Int} {v0 v1 v2 v3 v4 v5 v6:Value} (h:Tab z g x N W B L v0 v1 v2 v3 v4 v5 v6) (v:Value):Tab z g (x.setCell ⟨g,6,none⟩ v) N W B L v0 v1 v2 v3 v4 v5 v:=by
 obtain ⟨hp,⟨c0,c1,c2,c3,c4,c5,c6,cz⟩,hf,hz⟩:=h
 refine ⟨hp.other _ hz,?_,fun i=>(a1x _ _ _ _).trans (hf i),hz⟩
 refine ⟨?_,?_,?_,?_,?_,?_,?_,by simpa [World.setCell] using cz⟩<;>go_simp
theorem a5a (n:Nat) (W B L:Int) (s:ByteArray) (w:World) (hG:okG n W B L=true) (hs:s.size≤maxLen) (hat:refAt n W B L s<0) (hk:byt s 2=1) :
  Calls Tryz.prog 164 #[.agg #[.int .i64 (n:Int),.int .i64 W,.int .i64 B,.int .i64 L],.string s] w
   fun e w'=>(∃ v,e=.returned (.tuple #[.agg #[.int .i64 1,.int .i64 (byt s 4),.int .i64 (byt s 5),.int .i64 (val s 6 2),.int .i64 (val s 8 2),v,.string (s.extract (11+2 * n) (s.size-4))],.int .i64 0,.int .i64 0])∧OwnI w' w.heap.size v (vecOf s 10 n))∧Below w.heap.size w w':=by
 obtain ⟨h1,h2,h3,h4,-,-,-,-⟩:=a0u.1 hG
 have HC:Hid (∀ x,Calls Tryz.prog 158 #[.agg #[.int .i64 (n:Int),.int .i64 W,.int .i64 B,.int .i64 L]] x fun e w'=>e=.returned (.int .i64 0)∧Below x.heap.size x w'):=fun x=>by
  have:=a14 n W B L x
  rw [hG] at this
  exact this
 have HO:Hid (∀ x,Calls Tryz.prog 199 #[.agg #[.int .i64 (n:Int),.int .i64 W,.int .i64 B,.int .i64 L],.string s] x fun e w'=>e=.returned (.int .i64 (outR n s))∧Below x.heap.size x w'):=fun x=>a8b n W B L s x (by omega) (by omega) hs
 clear hG
 have co:outR n s<0:=by
  unfold refAt at hat
  by_cases co:outR n s<0
  ·exact co
  ·rw [if_neg co] at hat;omega
 have hsz:15+2 * n≤s.size:=by rcases ad5 co with ⟨k,hl⟩ | ⟨k,hl⟩<;>omega
 have HIn:Hid (∀ x,Calls Tryz.prog 200 #[.agg #[.int .i64 (n:Int),.int .i64 W,.int .i64 B,.int .i64 L],.string s] x fun e w'=>e=.returned (.int .i64 (refAt n W B L s))∧Below x.heap.size x w'):=fun x=>by
  unfold refAt
  rw [if_pos co,if_pos hk]
  exact a9x n W B L s x (by omega) (by omega) h3 h4 hs hsz hk
 generalize outR n s=p1 at *
 generalize refAt n W B L s=p2 at *
 have HS:Hid (s.size≤maxLen):=hs
 unfold maxLen at hs
 have HP0:Hid _:=a2y w n W B L 26 45
 have hi2:2<s.size:=by omega
 have hi4:4<s.size:=by omega
 have hi2i:(2:Int)<s.size:=by omega
 have hi4i:(4:Int)<s.size:=by omega
 have H4:Hid (byt s 4=s[4].toNat):=a1m s 4 hi4
 have hi5:5<s.size:=by omega
 have hi5i:(5:Int)<s.size:=by omega
 have H5:Hid (byt s 5=s[5].toNat):=a1m s 5 hi5
 have hb5:=s[5].toNat_lt
 have HX6:Hid (∀ w,Calls Tryz.prog 201 #[.string s,.int .i64 6,.int .i64 2] w fun e w'=>e=.returned (.int .i64 (val s 6 2))∧w'=w):=fun w=>a19 s 6 2 6 2 rfl rfl w HS.out (by omega) (by omega)
 have HX8:Hid (∀ w,Calls Tryz.prog 201 #[.string s,.int .i64 8,.int .i64 2] w fun e w'=>e=.returned (.int .i64 (val s 8 2))∧w'=w):=fun w=>a19 s 8 2 8 2 rfl rfl w HS.out (by omega) (by omega)
 have hb2:=s[2].toNat_lt
 have hb4:=s[4].toNat_lt
 rw [a1m s 2 hi2] at hk
 go_enter Tryz.func164,Tryz.ntmps164
 go_wp2_with fail
 refine (HC.out _).mono ?_
 rintro e w1 ⟨rfl,hb⟩
 have HA1:Hid (Below w.heap.size w w1):=bthen (a09 _ _ _) hb
 have HP1:Hid (Pen w.heap.size w1 n W B L):=HP0.out.below hb HP0.out.z
 clear hb HP0
 have D:=HP1.out
 have fr:=D.s.f
 obtain ⟨u0,hu0⟩:=D.s.r 0 (by omega)
 obtain ⟨u1,hu1⟩:=D.s.r 1 (by omega)
 obtain ⟨u2,hu2⟩:=D.s.r 2 (by omega)
 obtain ⟨u3,hu3⟩:=D.s.r 3 (by omega)
 obtain ⟨u4,hu4⟩:=D.s.r 4 (by omega)
 obtain ⟨u5,hu5⟩:=D.s.r 5 (by omega)
 obtain ⟨u6,hu6⟩:=D.s.r 6 (by omega)
 obtain ⟨c0,c1,c2,c3,_,cz⟩:=D
 go_wp2_with fail
 refine (HO.out _).mono ?_
 rintro e w2 ⟨rfl,hb⟩
 have HA2:Hid (Below w.heap.size w w2):=bthen HA1.out hb
 have HP2:Hid (Pen w.heap.size w2 n W B L):=HP1.out.below hb HP1.out.z
 clear hb HP1 HA1
 clear c0 c1 c2 c3 fr hu0 hu1 hu2 hu3 hu4 hu5 hu6 u0 u1 u2 u3 u4 u5 u6 cz
 have D:=HP2.out
 have fr:=D.s.f
 obtain ⟨u0,hu0⟩:=D.s.r 0 (by omega)
 obtain ⟨u1,hu1⟩:=D.s.r 1 (by omega)
 obtain ⟨u2,hu2⟩:=D.s.r 2 (by omega)
 obtain ⟨u3,hu3⟩:=D.s.r 3 (by omega)
 obtain ⟨u4,hu4⟩:=D.s.r 4 (by omega)
 obtain ⟨u5,hu5⟩:=D.s.r 5 (by omega)
 obtain ⟨u6,hu6⟩:=D.s.r 6 (by omega)
 obtain ⟨c0,c1,c2,c3,_,cz⟩:=D
 go_wp2_with fail
 refine (HIn.out _).mono ?_
 rintro e w3 ⟨rfl,hb⟩
 have HA3:Hid (Below w.heap.size w w3):=bthen HA2.out hb
 have HP3:Hid (Pen w.heap.size w3 n W B L):=HP2.out.below hb HP2.out.z
 clear hb HP2 HA2 HC HO HIn
 clear c0 c1 c2 c3 fr hu0 hu1 hu2 hu3 hu4 hu5 hu6 u0 u1 u2 u3 u4 u5 u6 cz
 have D:=HP3.out
 have fr:=D.s.f
 obtain ⟨u0,hu0⟩:=D.s.r 0 (by omega)
 obtain ⟨u1,hu1⟩:=D.s.r 1 (by omega)
 obtain ⟨u2,hu2⟩:=D.s.r 2 (by omega)
 obtain ⟨u3,hu3⟩:=D.s.r 3 (by omega)
 obtain ⟨u4,hu4⟩:=D.s.r 4 (by omega)
 obtain ⟨u5,hu5⟩:=D.s.r 5 (by omega)
 obtain ⟨u6,hu6⟩:=D.s.r 6 (by omega)
 obtain ⟨c0,c1,c2,c3,_,cz⟩:=D
 go_wp2_with fail
 go_region
 generalize s[4].toNat=k4 at *
 have hT:=aj2 HP3.out (.int .i64 1) (.int .i64 k4) (.int .i64 0) (.int .i64 0) (.int .i64 0) (.slice none 0 0) (.string ⟨#[]⟩) 45
 have hal:Below w3.heap.size w3 (w3.alloc (.cells #[.int .i64 1,.int .i64 (k4:Int),.int .i64 0,.int .i64 0,.int .i64 0,.slice none 0 0,.string ⟨#[]⟩] 45)):=(Below.refl _ _).alloc (Nat.le_refl _) _
 generalize hXX:w3.alloc (.cells #[.int .i64 1,.int .i64 (k4:Int),.int .i64 0,.int .i64 0,.int .i64 0,.slice none 0 0,.string ⟨#[]⟩] 45)=X at *
 have HTX:Hid (Tab w.heap.size w3.heap.size X.drew n W B L _ _ _ _ _ _ _):=hT.below (c:=X.heap.size) (Below.refl _ _).drew hT.sev.z
 have HAX:Hid (Below w.heap.size w X.drew):=(bthen HA3.out hal).drew
 generalize w3.heap.size=g at *
 clear hT hal hXX HP3
 clear c0 c1 c2 c3 fr hu0 hu1 hu2 hu3 hu4 hu5 hu6 cz
 generalize X.drew=X1 at *
 have T1:=HTX.out
 obtain ⟨⟨c0,c1,c2,c3,_,_⟩,⟨e0,e1,e2,e3,e4,e5,e6,ez⟩,ef,eg⟩:=T1
 have hl1:(11:Int)+2 * (n:Int)≤(s.size:Int)-4:=by omega
 have hl2:(4:Int)≤(s.size:Int):=by omega
 go_wp2_with fail
 refine (HX6.out _).mono ?_
 rintro e w4' ⟨rfl,rfl⟩
 generalize s[5].toNat=k5 at *
 have HTY:Hid _:=HTX.out.set2 (.int .i64 k5)
 have HAY:Hid (Below w.heap.size w (X1.setCell ⟨g,2,none⟩ (.int .i64 (k5:Int)))):=HAX.out.setCell (by show w.heap.size≤g;omega) _
 generalize X1.setCell ⟨g,2,none⟩ (.int .i64 (k5:Int))=X2 at *
 clear HTX HAX
 clear c0 c1 c2 c3 e0 e1 e2 e3 e4 e5 e6 ez ef
 have T1:=HTY.out
 obtain ⟨⟨c0,c1,c2,c3,_,_⟩,⟨e0,e1,e2,e3,e4,e5,e6,ez⟩,ef,eg⟩:=T1
 have hv6:=a6t s 6
 have hv8:=a6t s 8
 go_wp2_with fail
 refine (HX8.out _).mono ?_
 rintro e w4' ⟨rfl,rfl⟩
 have HTZ:Hid _:=HTY.out.set3 (.int .i64 (val s 6 2))
 have HAZ:Hid (Below w.heap.size w (X2.setCell ⟨g,3,none⟩ (.int .i64 (val s 6 2:Int)))):=HAY.out.setCell (by show w.heap.size≤g;omega) _
 generalize X2.setCell ⟨g,3,none⟩ (.int .i64 (val s 6 2:Int))=X3 at *
 clear HTY HAY
 clear c0 c1 c2 c3 e0 e1 e2 e3 e4 e5 e6 ez ef
 have T1:=HTZ.out
 obtain ⟨⟨c0,c1,c2,c3,_,_⟩,⟨e0,e1,e2,e3,e4,e5,e6,ez⟩,ef,eg⟩:=T1
 go_wp2_with fail
 have HTX:Hid _:=(HTZ.out.set4 (.int .i64 (val s 8 2))).set6 (.string (s.extract (11+2 * n) (s.size-4)))
 have HAX:Hid (Below w.heap.size w ((X3.setCell ⟨g,4,none⟩ (.int .i64 (val s 8 2:Int))).setCell ⟨g,6,none⟩ (.string (s.extract (11+2 * n) (s.size-4))))):=(HAZ.out.setCell (by show w.heap.size≤g;omega) _).setCell (by show w.heap.size≤g;omega) _
 generalize (X3.setCell ⟨g,4,none⟩ (.int .i64 (val s 8 2:Int))).setCell ⟨g,6,none⟩ (.string (s.extract (11+2 * n) (s.size-4)))=X4 at *
 clear HTZ HAZ
 clear c0 c1 c2 c3 e0 e1 e2 e3 e4 e5 e6 ez ef
 obtain ⟨i0,hi,hz0,hz1,hz2⟩:=info_parts Tryz.a3d
 go_loopw [11] (fun c wr=>∃ (k:Nat) (v:Value),k≤n∧c=.int .i64 k∧OwnI wr (g+1) v (vecOf s 10 k)∧Tab w.heap.size g wr n W B L (.int .i64 1) (.int .i64 k4) (.int .i64 k5) (.int .i64 (val s 6 2)) (.int .i64 (val s 8 2)) v (.string (s.extract (11+2 * n) (s.size-4)))∧Below w.heap.size w wr) (fun c _=>n-(intOf c).toNat)
 case atStart=>exact ⟨0,.slice none 0 0,Nat.zero_le _,rfl,World.ownsRow_nil _ _ _ _,HTX.out,HAX.out⟩
 case round =>
  obtain ⟨k,v,hkn,rfl,hown,htab,hbel⟩:=hrel
  obtain ⟨av,cv,hve⟩:=hown.shape
  rw [a06] at hve
  subst hve
  have HOwn:Hid (OwnI wr (g+1) (.slice av k cv) (vecOf s 10 k)):=hown
  have HTab:Hid (Tab w.heap.size g wr n W B L (.int .i64 1) (.int .i64 k4) (.int .i64 k5) (.int .i64 (val s 6 2)) (.int .i64 (val s 8 2)) (.slice av k cv) (.string (s.extract (11+2 * n) (s.size-4)))):=htab
  have HBel:Hid (Below w.heap.size w wr):=hbel
  obtain ⟨⟨c0,c1,c2,c3,⟨sr,sf,_⟩,_⟩,⟨e0,e1,e2,e3,e4,e5,e6,ez⟩,ef,_⟩:=htab
  clear hown hbel
  by_cases hlt:k<n
  ·have HX:Hid (∀ w,Calls Tryz.prog 201 #[.string s,.int .i64 ((10:Int)+2 * (k:Int)),.int .i64 2] w fun e w'=>e=.returned (.int .i64 (val s (10+2 * k) 2))∧w'=w):=fun w=>a19 s ((10:Int)+2 * (k:Int)) 2 (10+2 * k) 2 (by omega) rfl w HS.out (by omega) (by omega)
   have HV:Hid (vecOf s 10 (k+1)=vecOf s 10 k++[(val s (10+2 * k) 2:Int)]):=a4r s 10 k
   have HL:Hid ((vecOf s 10 k).length=k):=a06 s 10 k
   generalize val s (10+2 * k) 2=y at *
   clear sr sf
   go_wp2_with fail
   refine (HX.out _).mono ?_
   rintro e w' ⟨rfl,rfl⟩
   go_wp2_with (at_builtin;refine wpList_append_own _ rfl (.tmp 74) (.tmp 76) 34 rfl (g+1) 3 i0 (.int .i64 0) 1 8 Tryz.underlying34 hi hz0 hz1 hz2 rfl (by decide) _ _ _ rfl (HOwn.out.alloc _) ⟨w'.heap.size,0,none⟩ 1 1 [.int .i64 (y:Int)] rfl rfl ?c1 ?c2 ?c3 ?c4 ?c5 ?_)
   case c1 =>
    intro q u hq
    match q,hq with
    | 0,hq=>simp at hq;subst hq;simp [Addr.add]
   case c2=>intro u hu;simp at hu;subst hu;rfl
   case c3=>rw [HL.out];unfold maxLen;omega
   case c4=>rw [HL.out];omega
   case c5=>simp;omega
   ·intro v' w5 hown' hgrow _
    have R:=OwnI.snoc (y:Int) _ HOwn.out hown' hgrow (by omega)
    rw [←HV.out] at R
    obtain ⟨av',cv',hve⟩:=R.1.shape
    rw [a06] at hve
    subst hve
    have HO5:Hid (OwnI w5 (g+1) (.slice av' (k+1) cv') (vecOf s 10 (k+1))):=R.1
    have HB5:Hid (Below (g+1) w' w5):=R.2
    have HT5:Hid _:=HTab.out.below R.2 (Nat.lt_succ_self g)
    have hT5:=HT5.out
    clear hown' hgrow R c0 c1 c2 c3 e0 e1 e2 e3 e4 e5 e6 ez ef
    obtain ⟨⟨c0,c1,c2,c3,_,_⟩,⟨e0,e1,e2,e3,e4,e5,e6,ez⟩,ef,_⟩:=hT5
    go_wp2_with fail
    go_roundw
    case rel=>exact ⟨k+1,.slice av' (k+1) cv',by omega,by go_num,HO5.out.other (Nat.lt_succ_self g) _,HT5.out.set5 (.slice av' (k+1) cv'),(HBel.out.trans (HB5.out.mono (by omega))).setCell (by show w.heap.size≤g;omega) _⟩
    case measure=>simp [intOf];omega
  ·have hkn':k=n:=by omega
   subst hkn'
   have fr:=sf
   obtain ⟨u0,hu0⟩:=sr 0 (by omega)
   obtain ⟨u1,hu1⟩:=sr 1 (by omega)
   obtain ⟨u2,hu2⟩:=sr 2 (by omega)
   obtain ⟨u3,hu3⟩:=sr 3 (by omega)
   obtain ⟨u4,hu4⟩:=sr 4 (by omega)
   obtain ⟨u5,hu5⟩:=sr 5 (by omega)
   obtain ⟨u6,hu6⟩:=sr 6 (by omega)
   go_wp2_with fail
   obtain ⟨r0,r1,r2,r3,r4,r5,r6⟩:=Slots.seven HTab.out.pen.s (.int .i64 1) (.int .i64 k4) (.int .i64 k5) (.int .i64 (val s 6 2)) (.int .i64 (val s 8 2)) (.slice av k cv) (.string (s.extract (11+2 * k) (s.size-4))) _ rfl
   refine bodyPost_ret (v:=.tuple #[.agg #[.int .i64 1,.int .i64 k4,.int .i64 k5,.int .i64 (val s 6 2),.int .i64 (val s 8 2),.slice av k cv,.string (s.extract (11+2 * k) (s.size-4))],.int .i64 0,.int .i64 0]) (by simp [results,Tryz.results164,go_sem,r0,r1,r2,r3,r4,r5,r6]) rfl ⟨⟨.slice av k cv,by rw [H4.out,H5.out],?_⟩,?_⟩
   ·exact (HOwn.out.set7 (by omega) _ _ _ _ _ _ _).mono (by omega)
   ·exact a0b HBel.out (by omega) _ _ _ _ _ _ _
theorem b4d {n:Nat} {W B L:Int} {t:ByteArray} {x:Option Int} (h:rAll n W B L t=some x):0≤refAt n W B L t:=by
 rcases ac3 n W B L t with ⟨h1,_⟩ | ⟨_,h2⟩
 ·rw [h] at h1;cases h1
 ·exact h2
theorem ai7 {n:Nat} {W B L:Int} {t:ByteArray} (h:rAll n W B L t=none):refAt n W B L t<0:=by
 rcases ac3 n W B L t with ⟨_,h2⟩ | ⟨h1,_⟩
 ·omega
 ·rw [h] at h1;cases h1
theorem b3j (b:Nat) (g:Gr) (p:Nat) (s:NS) (m:Nat) (F:Nat→Prop) (t:ByteArray) (hg:g.Ok) (ht:t.size≤maxLen) {x:Option Int} (hx:rAll g.n g.W g.B g.L t=some x) (w:World) (h:RefAt w b g p s m F) :
  Calls Tryz.prog 171 #[.pointer (some ⟨b,0,none⟩),.string t] w fun e w'=>∃ v,e=.returned (.tuple #[v,.int .i64 ((s.hear g p t).k:Int)])∧RDid w w' b g p F (s.hear g p t).s (m+1) v (s.hear g p t).ps:=by
 have HR0:Hid (RefAt w b g p s m F):=h
 obtain ⟨r,G,hM,hS,hf1,hs1,hft⟩:=h.how
 have hn:=hg.n
 have HS:Hid (Sim g p s r):=hS
 have HM:Hid (RMem w b g p r G):=hM
 have HFt:Hid (∀ k,G.foot b k→F k):=hft
 have c0:=hM.nd.c0
 have c1:=hM.nd.c1
 have c2:=hM.nd.c2
 have c3:=hM.nd.c3
 have HD:Hid _:=a5w g.n g.W g.B g.L t w hg.okG ht (b4d hx)
 have HE:Hid (s.hear g p t=⟨5,[],s⟩):=by show _=_;unfold NS.hear;rw [hx]
 clear h hS hM hft hx
 generalize s.hear g p t=res at *
 generalize refAt g.n g.W g.B g.L t=at1 at *
 unfold fz at HD
 go_enter Tryz.func171,Tryz.ntmps171
 go_wp2_with fail
 refine (show Calls _ _ _ _ _ from HD.out).mono ?_
 rintro e w1 ⟨rfl,hb1⟩
 have HB1:Hid (Below w.heap.size w w1):=hb1
 clear hb1
 go_wp2_with fail
 go_ret2
 rw [HE.out]
 exact ⟨_,rfl,RDid.none HR0.out (bthen HB1.out (a00 _ _))⟩
theorem ao1 (b:Nat) (g:Gr) (p:Nat) (s:NS) (m:Nat) (F:Nat→Prop) (t:ByteArray) (hg:g.Ok) (hp:p<g.n) (ht:t.size≤maxLen) (hx:rAll g.n g.W g.B g.L t=none) (h2:byt t 2=2) (hm:m≤100000000) (w:World) (h:RefAt w b g p s m F) :
  Calls Tryz.prog 171 #[.pointer (some ⟨b,0,none⟩),.string t] w fun e w'=>∃ v,e=.returned (.tuple #[v,.int .i64 ((s.hear g p t).k:Int)])∧RDid w w' b g p F (s.hear g p t).s (m+1) v (s.hear g p t).ps:=by
 have HR0:Hid (RefAt w b g p s m F):=h
 obtain ⟨r,G,hM,hS,hf1,hs1,hft⟩:=h.how
 have hn:=hg.n
 have HS:Hid (Sim g p s r):=hS
 have HM:Hid (RMem w b g p r G):=hM
 have HFt:Hid (∀ k,G.foot b k→F k):=hft
 have c0:=hM.nd.c0
 have c1:=hM.nd.c1
 have c2:=hM.nd.c2
 have c3:=hM.nd.c3
 have HD:Hid _:=a4o g.n g.W g.B g.L t w hg.okG ht (ai7 hx) h2
 obtain ⟨hvb,hfn⟩:=ae5 hx h2
 have HE1:Hid (byt t 4=p→s.hear g p t=⟨6,[],s⟩):=fun e=>by unfold NS.hear;rw [hx];simp only;rw [if_pos e]
 have HE2:Hid (byt t 4≠p→s.hear g p t=⟨0,[],s.told g (byt t 4) (vecOf t 5 g.n)⟩):=fun e=>by unfold NS.hear;rw [hx];simp only;rw [if_neg e,if_neg (by omega)]
 have HVl:Hid ((vecOf t 5 g.n).length=g.n):=a06 t 5 g.n
 have HTd:Hid (byt t 4≠p→Sim g p (s.told g (byt t 4) (vecOf t 5 g.n)) { r with ts:=r.ts++[((byt t 4:Int),vecOf t 5 g.n)] }):=fun e=>hS.told hp hfn e hvb
 clear h hS hM hft hx h2 hvb
 generalize s.hear g p t=res at *
 generalize byt t 4=fr at *
 generalize vecOf t 5 g.n=vs at *
 go_enter Tryz.func171,Tryz.ntmps171
 go_wp2_with fail
 refine (show Calls _ _ _ _ _ from HD.out).mono ?_
 rintro e w1 ⟨⟨v,rfl,hov⟩,hb1⟩
 obtain ⟨ga,cc,hcv,hga,hgt,hci⟩:=ar9 (n:=g.n) (vs:=vs) (by omega) (by have h1:=hov;unfold OwnI at h1;rw [HVl.out] at h1;exact h1)
 subst hcv
 have HB1:Hid (Below w.heap.size w w1):=hb1
 have HVt:Hid (∃ cur,w1.heap[ga]?=some (.cells cur 3 (0,0))):=hgt
 have HVi:Hid (Ints w1 (some ⟨ga,0,none⟩) g.n vs):=hci
 have HGa:Hid (w.heap.size≤ga):=hga
 have HBx:Hid (Below w1.heap.size w1 (w1.alloc (.cells #[.int .i64 2,.int .i64 (fr:Int),.int .i64 0,.int .i64 0,.int .i64 0,.slice (some ⟨ga,0,none⟩) g.n cc,.string ⟨#[]⟩] 45))):=a00 _ _
 have HSv:Hid (Seven w1.heap.size (w1.alloc (.cells #[.int .i64 2,.int .i64 (fr:Int),.int .i64 0,.int .i64 0,.int .i64 0,.slice (some ⟨ga,0,none⟩) g.n cc,.string ⟨#[]⟩] 45)) (.int .i64 2) (.int .i64 (fr:Int)) (.int .i64 0) (.int .i64 0) (.int .i64 0) (.slice (some ⟨ga,0,none⟩) g.n cc) (.string ⟨#[]⟩)):=a05 w1 (.int .i64 2) (.int .i64 (fr:Int)) (.int .i64 0) (.int .i64 0) (.int .i64 0) (.slice (some ⟨ga,0,none⟩) g.n cc) (.string ⟨#[]⟩) 45
 clear hov hb1 hgt hci hga c0 c1 c2 c3
 go_wp2_with fail
 generalize w1.alloc (.cells #[.int .i64 2,.int .i64 (fr:Int),.int .i64 0,.int .i64 0,.int .i64 0,.slice (some ⟨ga,0,none⟩) g.n cc,.string ⟨#[]⟩] 45)=X at *
 have HBX:Hid (Below w.heap.size w X):=bthen HB1.out HBx.out
 have HMX:Hid (RMem X b g p r G):=HM.out.low HBX.out
 have c4:=HMX.out.nd.c4
 have s0:=HSv.out.c0
 have s1:=HSv.out.c1
 have s2:=HSv.out.c2
 by_cases hfp:fr=p
 ·have HR:Hid (res=⟨6,[],s⟩):=HE1.out hfp
  subst hfp
  go_region
  go_wp2_with fail
  go_ret2
  rw [HR.out]
  exact ⟨_,rfl,RDid.none HR0.out (by first | exact HBX.out | exact HBX.out.drew | exact below_drewN HBX.out _)⟩
 ·have HR:Hid (res=⟨0,[],s.told g fr vs⟩):=HE2.out hfp
  have HTd2:Hid _:=HTd.out hfp
  have b1:((fr:Int) == (p:Int))=false:=by simp;omega
  go_region
  have HBd:Hid (Below X.heap.size X X.drew):=(Below.refl _ _).drew
  go_wp2_with fail
  generalize X.drew=V at *
  have HBV:Hid (Below w.heap.size w V):=bthen HBX.out HBd.out
  have HMV:Hid (RMem V b g p r G):=HM.out.low HBV.out
  have HSV:Hid _:=HSv.out.below HBd.out HSv.out.z
  have HVV:Hid (VecAt V g.n ⟨2,fr,0,0,0,some ⟨ga,0,none⟩,cc,vs,⟨#[]⟩⟩):=VecAt.low (w:=w1) ⟨HVi.out,by obtain ⟨cur,e⟩:=HVt.out;exact ⟨ga,cur,rfl,e⟩⟩ (bthen HBx.out HBd.out)
  clear c4 s0 s1 s2
  obtain ⟨s0,s1,s2,s3,s4,s5,s6,sz⟩:=HSV.out
  have c7:=HMV.out.nd.c7
  have fz:=a0h HMV.out.nd.ty 7
  have hbX:b<V.heap.size:=lt_of_cell c7
  have hnb:some b≠(Value.slice G.ta G.ss.length G.tcap).ownBlock:=fun he=>by
   obtain ⟨cur,e⟩:=HMV.out.nd.ty
   obtain ⟨_,e'⟩:=a02 HMV.out.nd.tt.own (a1d HMV.out.nd.tt.own he.symm)
   exact ty_ne e e' (by decide) rfl
  obtain ⟨i0,hi,hz0,hz1,hz2⟩:=info_parts Tryz.a2w
  have hone:∀ u∈([.int .i64 2,.int .i64 (fr:Int),.int .i64 0,.int .i64 0,.int .i64 0,.slice (some ⟨ga,0,none⟩) g.n cc,.string ⟨#[]⟩]:List Value),u.oneCell'=true:=by
   intro u hu
   simp at hu
   rcases hu with rfl | rfl | rfl | rfl | rfl<;>rfl
  have HO:Hid (∀ x:World,Below V.heap.size V x→x.ownsRow 0 45 7 (.slice G.ta G.ss.length G.tcap) G.ss.length (frow g.n G.ss)):=fun x hx=>(HMV.out.low hx).nd.tt.own
  go_cut [] from 49 (fun wc=>Grew V wc b 7 45 7 G.ta (G.ss.length+1) (frow g.n (G.ss++[⟨2,fr,0,0,0,some ⟨ga,0,none⟩,cc,vs,⟨#[]⟩⟩])))
  case first =>
   go_region_law
    (refine step_append_lies _ rfl (.tmp 53) (.tmp 55) 147 rfl 0 45 i0 _ 7 80 Tryz.underlying147 hi hz0 hz1 hz2 rfl (by decide) (.slice G.ta G.ss.length G.tcap) G.ss.length (frow g.n G.ss) (by simp [Act.eval]) (HO.out _ (by first | exact (a00 _ _).drew | exact ((Below.refl _ _).drew).trans (a00 _ _) | exact a00 _ _)) ⟨V.heap.size,0,none⟩ 1 1 [.int .i64 2,.int .i64 (fr:Int),.int .i64 0,.int .i64 0,.int .i64 0,.slice (some ⟨ga,0,none⟩) g.n cc,.string ⟨#[]⟩] (by simp [Act.eval]) rfl (World.news_of_block (heap_alloc_new V _)) hone (by decide) (by unfold maxLen;omega) (by omega) (Nat.zero_le _) _ rfl ?_;intro g' cap' v1 hown hgrow hat hlt2;have HO1:Hid (World.ownsRow v1 0 45 7 (.slice (some ⟨g',0,none⟩) (G.ss.length+1) cap') (G.ss.length+1) (frow g.n G.ss++[.int .i64 2,.int .i64 (fr:Int),.int .i64 0,.int .i64 0,.int .i64 0,.slice (some ⟨ga,0,none⟩) g.n cc,.string ⟨#[]⟩])):=hown;have HX:Hid (∃ x0:World,∃ H:Nat,Below V.heap.size V x0∧x0.grownBy v1 (Value.slice G.ta G.ss.length G.tcap).ownBlock∧((Value.slice G.ta G.ss.length G.tcap).ownBlock=some g'∨g'=H)∧V.heap.size≤H):=⟨_,_,(by first | exact (a00 _ _).drew | exact ((Below.refl _ _).drew).trans (a00 _ _) | exact a00 _ _),hgrow,hat,(by simp)⟩;have c11:v1.cell? ⟨b,7,none⟩=some (.slice G.ta G.ss.length G.tcap):=(hgrow.cell_far ⟨b,7,none⟩ (by simp;omega) hnb).trans ((Below.cell (B:=V.heap.size) (w:=V) (by first | exact (a00 _ _).drew | exact ((Below.refl _ _).drew).trans (a00 _ _) | exact a00 _ _) (p:=⟨b,7,none⟩) hbX).trans c7);have f11:v1.frozen? ⟨b,7,none⟩=false:=(hgrow.frozen_far ⟨b,7,none⟩ (by simp;omega) hnb).trans ((Below.frozen (B:=V.heap.size) (w:=V) (by first | exact (a00 _ _).drew | exact ((Below.refl _ _).drew).trans (a00 _ _) | exact a00 _ _) (p:=⟨b,7,none⟩) hbX).trans fz);clear hown hgrow hat hlt2)
   all_goals
    go_wp2_with fail
    go_meet
    case rel =>
     obtain ⟨x0,H,hx0,hgr,hat,hH⟩:=HX.out
     rw [a1e]
     exact a9h (i:=7) (u:=.slice G.ta G.ss.length G.tcap) HMV.out.nd.ty (by decide) HMV.out.nd.tt.own hx0 hgr hat hH HO1.out c11
  case rest =>
   have HG2:Hid (Grew V wc b 7 45 7 G.ta (G.ss.length+1) (frow g.n (G.ss++[⟨2,fr,0,0,0,some ⟨ga,0,none⟩,cc,vs,⟨#[]⟩⟩]))):=hcut
   clear hcut c7 fz hnb HO hone s0 s1 s2 s3 s4 s5 s6 sz hi hz0 hz1 hz2
   go_wp2_with fail
   go_ret2
   rw [HR.out]
   obtain ⟨G',hM',hfs,hss,hfo⟩:=HMV.out.state HG2.out HVV.out (fun k hk hs=>by
    obtain ⟨off,hk⟩:=hk
    cases hk
    have h1:=HM.out.a1k (k:=ga) (Or.inr (Or.inr (Or.inl hs)))
    have h2:=HGa.out
    omega)
   have zV:=HBV.out.size
   have zc:=HG2.out.rest.size
   refine ⟨_,rfl,⟨fun k=>G'.foot b k,⟨_,G',hM',HTd2.out,by rw [hfs];omega,by rw [hss,List.length_append];simp;omega,fun _ h=>h⟩,fun k hk=>?_⟩,?_,Pks.nil _ _⟩
   ·rcases hfo k hk with h | h | h
    ·exact Or.inl (HFt.out k h)
    ·obtain ⟨off,h⟩:=h
     cases h
     exact Or.inr HGa.out
    ·exact Or.inr (by omega)
   ·exact (Alike.of_below HBV.out F).trans HG2.out.rest (fun k _ hk=>HFt.out k (hk.elim Or.inl (fun h=>Or.inr (Or.inr (Or.inr (Or.inl h))))))
end Go.Proofs.YtabecbjfamphbaaGreatDoor
