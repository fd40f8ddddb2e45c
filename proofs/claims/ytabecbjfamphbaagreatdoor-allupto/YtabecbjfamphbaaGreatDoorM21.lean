/- A part of the proof. -/
import Derived.Test.YtabecbjfamphbaaGreatDoorM20
namespace Go.Proofs.YtabecbjfamphbaaGreatDoor
open Go.RowKit Go.Stop Go.Extern
set_option maxRecDepth 100000
structure Four (g:Nat) (x:World) (N W B L:Int):Prop where
 c0:x.cell? ⟨g,0,none⟩=some (.int .i64 N)
 c1:x.cell? ⟨g,1,none⟩=some (.int .i64 W)
 c2:x.cell? ⟨g,2,none⟩=some (.int .i64 B)
 c3:x.cell? ⟨g,3,none⟩=some (.int .i64 L)
 z:g<x.heap.size
theorem Four.below {g:Nat} {x y:World} {N W B L:Int} (h:Four g x N W B L) {c:Nat} (hb:Below c x y) (hz:g<c):Four g y N W B L:=by
 have e:∀ (i:Nat),y.cell? ⟨g,i,none⟩=x.cell? ⟨g,i,none⟩:=fun i=>hb.cell (p:=⟨g,i,none⟩) hz
 exact ⟨(e _).trans h.c0,(e _).trans h.c1,(e _).trans h.c2,(e _).trans h.c3,Nat.lt_of_lt_of_le h.z hb.size⟩
theorem Four.alike {g:Nat} {x y:World} {N W B L:Int} {E:Nat→Prop} (h:Four g x N W B L) (ha:Alike x y E) (hE:¬ E g):Four g y N W B L:=
 ⟨ha.cell h.c0 hE,ha.cell h.c1 hE,ha.cell h.c2 hE,ha.cell h.c3 hE,Nat.lt_of_lt_of_le h.z ha.size⟩
theorem aa5 (w:World) (N W B L:Int) (t:TypeId):Four w.heap.size (w.alloc (.cells #[.int .i64 N,.int .i64 W,.int .i64 B,.int .i64 L] t)) N W B L:=by
 have e:∀ i,(w.alloc (.cells #[.int .i64 N,.int .i64 W,.int .i64 B,.int .i64 L] t)).cell? ⟨w.heap.size,i,none⟩=#[Value.int .i64 N,.int .i64 W,.int .i64 B,.int .i64 L][i]?:=fun i=>cell_of_row _ _ i _ t (0,0) (heap_alloc_new _ _)
 exact ⟨e 0,e 1,e 2,e 3,by simp⟩
def a0d (N W B L p:Int):Nat:=if okG N W B L && decide (0≤p∧p<N) then 0 else 1
theorem NS.b1j (g:Gr) (q o:Nat):vw (NS.new g).vs q o=0:=by
 unfold vw NS.new
 simp only
 rw [List.getD_eq_getElem?_getD,List.getD_eq_getElem?_getD,List.getElem?_replicate]
 split
 ·simp only [Option.getD_some,List.getElem?_replicate]
  split<;>rfl
 ·rfl
theorem NS.b27 {g:Gr} (hg:g.Ok) (p:Nat):(NS.new g).Ok g p:=by
 refine ⟨⟨⟨by simp [NS.new],fun q hq=>?_⟩,fun q o _ _=>?_,fun o _=>?_,fun x hx=>(by cases hx)⟩,fun f hf=>(by cases hf),List.Pairwise.nil,fun f hf=>(by cases hf),fun f hf=>(by cases hf)⟩
 ·unfold NS.new
  simp only
  rw [List.getD_eq_getElem?_getD,List.getElem?_replicate,if_pos hq]
  simp
 ·rw [NS.b1j]
  have:=hg.L
  omega
 ·rw [NS.b1j]
  rfl
theorem VB.low {w w':World} {gv n k:Nat} {rows:List Nat} (h:VB w gv n k rows) (hb:Below w.heap.size w w'):VB w' gv n k rows:=by
 have hgv:gv<w.heap.size:=by obtain ⟨c,e⟩:=h.ty;exact lt_of_some e
 have e:∀ q,w'.cell? ⟨gv,q,none⟩=w.cell? ⟨gv,q,none⟩:=fun q=>hb.cell (p:=⟨gv,q,none⟩) hgv
 exact ⟨fun q hq=>(e q).trans (h.row q hq),fun q hq=>by rw [e q];exact h.more q hq,by obtain ⟨c,e⟩:=h.ty;exact ⟨c,(hb.block gv hgv).trans e⟩,fun q hq=>(h.each q hq).below hb (h.each q hq).lt,h.len,fun r hr=>⟨(h.gt r hr).1,Nat.lt_of_lt_of_le (h.gt r hr).2 hb.size⟩,h.nodup⟩
theorem b8a {w:World} {b gv n:Nat} {rows:List Nat} {W B L:Int} {p:Nat} (hv:VB w gv n n rows) (hb:w.heap[b]?=some (.cells #[.int .i64 (n:Int),.int .i64 W,.int .i64 B,.int .i64 L,.int .i64 (p:Int),.slice (some ⟨gv,0,none⟩) n n,.slice none 0 0,.slice none 0 0] 149 (0,0))):a0m w b ⟨n,W,B,L⟩ p (NS.new ⟨n,W,B,L⟩) (Lay.foot ⟨gv,rows,none,0,none,0⟩ b []):=by
 have e:∀ i,w.cell? ⟨b,i,none⟩=#[Value.int .i64 (n:Int),.int .i64 W,.int .i64 B,.int .i64 L,.int .i64 (p:Int),.slice (some ⟨gv,0,none⟩) n n,.slice none 0 0,.slice none 0 0][i]?:=fun i=>cell_of_row _ _ i _ _ (0,0) hb
 refine ⟨⟨gv,rows,none,0,none,0⟩,[],⟨⟨e 0,e 1,e 2,e 3,e 4,e 5,_,hb⟩,⟨hv.row,hv.ty,fun q hq=>?_,hv.len,by simp [NS.new],fun q hq=>?_,hv.nodup⟩,e 6,⟨rfl,World.ownsRow_nil _ _ _ _⟩,fun f hf=>(by cases hf),e 7,⟨rfl,World.ownsRow_nil _ _ _ _⟩⟩,rfl,fun f hf=>(by cases hf),fun _=>Iff.rfl⟩
 ·have h1:=hv.each q hq
  unfold NS.new
  simp only
  rw [List.getD_eq_getElem?_getD (l:=List.replicate n (List.replicate n 0)),List.getElem?_replicate,if_pos hq]
  exact h1
 ·unfold NS.new
  simp only
  rw [List.getD_eq_getElem?_getD,List.getElem?_replicate,if_pos hq]
  simp
set_option maxHeartbeats 1000000 in
theorem a5i (A:Nat→Addr) (base:Nat) (N W B L p:Int) (w:World) (hw:Sl w A base) :
  Calls Tryz.prog 52 #[.agg #[.int .i64 N,.int .i64 W,.int .i64 B,.int .i64 L],.int .i64 p] w fun e w'=>(∃ v er,e=.returned (.tuple #[v,er])∧a0l A er (a0d N W B L p)∧(a0d N W B L p≠0→v=.pointer none) ∧
   (a0d N W B L p=0→∃ b F,v=.pointer (some ⟨b,0,none⟩)∧a0m w' b ⟨N.toNat,W,B,L⟩ p.toNat (NS.new ⟨N.toNat,W,B,L⟩) F∧∀ k,F k→w.heap.size≤k))∧Below w.heap.size w w':=by
 have HW:Hid _:=hw
 have HKE:Hid (a0d N W B L p=if okG N W B L && decide (0≤p∧p<N) then 0 else 1):=rfl
 generalize a0d N W B L p=K at *
 go_enter Tryz.func52,Tryz.ntmps52
 go_wp2_with fail
 have HX:Hid _:=a00 w (.cells #[.int .i64 N,.int .i64 W,.int .i64 B,.int .i64 L] 26)
 have HFo:Hid _:=aa5 w N W B L 26
 generalize w.alloc (.cells #[.int .i64 N,.int .i64 W,.int .i64 B,.int .i64 L] 26)=X at *
 by_cases hG:okG N W B L=true
 ·refine (a2i N W B L X hG).mono ?_
  rintro e w1 ⟨rfl,hb1⟩
  have HB1:Hid _:=bthen HX.out hb1
  have HF1:Hid _:=HFo.out.below hb1 HFo.out.z
  clear hb1
  obtain ⟨c0,c1,c2,c3,cz⟩:=HF1.out
  go_wp2_with fail
  refine (a3o N W B L p w1).mono ?_
  rintro e w2 ⟨rfl,hb2⟩
  have HB2:Hid _:=bthen HB1.out hb2
  have HF2:Hid _:=HF1.out.below hb2 cz
  clear hb2 c0 c1 c2 c3 cz
  obtain ⟨c0,c1,c2,c3,cz⟩:=HF2.out
  by_cases hp:0≤p∧p<N
  ·have HK0:Hid (K=0):=by show K=0;rw [HKE.out,hG,decide_eq_true hp];rfl
   have hn8:=(a0u.1 hG).2.1
   rw [decide_eq_true hp]
   obtain ⟨n,rfl⟩:∃ n:Nat,N=n:=⟨N.toNat,by omega⟩
   obtain ⟨q,rfl⟩:∃ q:Nat,p=q:=⟨p.toNat,by omega⟩
   clear hp
   go_wp2_with fail
   have HNV:Hid _:=fun x=>al8 n W B L (by omega) x
   go_region_held3 (fun x=>x.cell? ⟨w.heap.size,0,none⟩=some (.int .i64 (n:Int))∧x.cell? ⟨w.heap.size,1,none⟩=some (.int .i64 W)∧x.cell? ⟨w.heap.size,2,none⟩=some (.int .i64 B)∧x.cell? ⟨w.heap.size,3,none⟩=some (.int .i64 L))
    (first|(exact ⟨c0,c1,c2,c3⟩)|(exact ⟨HF3.out.c0,HF3.out.c1,HF3.out.c2,HF3.out.c3⟩) | go_keep)
    (first|(go_at_call 91;refine (show Calls _ _ _ _ _ from HNV.out _).mono ?_;rintro e w3 ⟨⟨gv,rows,rfl,hvb,hgv⟩,hb3⟩;have HB3:Hid (Below w2.heap.size w2 w3):=(Below.refl _ _).drew.trans hb3;have HF3:Hid _:=HF2.out.below HB3.out cz;have HVB:Hid _:=hvb;have HGV:Hid (w2.heap.size≤gv):=hgv;clear hb3 hvb hgv))
   go_wp2_with fail
   go_ret2
   have hz1:=HB2.out.size
   have hz2:=HB3.out.size
   refine ⟨⟨_,_,rfl,?_,fun h=>absurd HK0.out h,fun _=>⟨w3.heap.size,_,rfl,b8a (HVB.out.low (a00 _ _)) (heap_alloc_new _ _),?_⟩⟩,bthen (bthen HB2.out HB3.out) (a00 _ _)⟩
   ·rw [HK0.out]
    exact ⟨Or.inl ⟨rfl,rfl⟩⟩
   ·rintro k (rfl | rfl | hk | ⟨_,hk⟩ | ⟨_,hk⟩ | ⟨f,hf,_⟩)
    ·omega
    ·have:=HGV.out
     omega
    ·have:=(HVB.out.gt k hk).1
     have:=HGV.out
     omega
    ·cases hk
    ·cases hk
    ·cases hf
  ·have HK1:Hid (K=1):=by show K=1;rw [HKE.out,decide_eq_false hp,Bool.and_false];rfl
   rw [decide_eq_false hp]
   have e1:w2.cell? ⟨0,0,none⟩=some (.iface 298 (.pointer (some (A 1)))):=(HW.out.low HB2.out).s.c 1 (by decide) (by decide)
   clear c0 c1 c2 c3 cz
   go_wp2_with (go_at_call 90;refine (a0r _ _ _).mono ?_;rintro e w' ⟨rfl,rfl⟩)
   go_ret2
   refine ⟨⟨_,_,rfl,?_,fun _=>rfl,fun h=>?_⟩,HB2.out⟩
   ·rw [HK1.out]
    exact ⟨Or.inr (Or.inl ⟨by decide,by decide,_,rfl⟩)⟩
   ·rw [HK1.out] at h
    cases h
 ·have HK1:Hid (K=1):=by show K=1;rw [HKE.out,show okG N W B L=false by simpa using hG];rfl
  refine (a2v (A 1) (A 5) N W B L X (HW.out.low HX.out).sent (by simpa using hG)).mono ?_
  rintro e w1 ⟨⟨t,rfl⟩,hb1⟩
  have HB1:Hid _:=bthen HX.out hb1
  clear hb1
  go_wp2_with fail
  go_ret2
  refine ⟨⟨_,_,rfl,?_,fun _=>rfl,fun h=>?_⟩,HB1.out⟩
  ·rw [HK1.out]
   exact ⟨Or.inr (Or.inl ⟨by decide,by decide,_,rfl⟩)⟩
  ·rw [HK1.out] at h
   cases h
def mrow (nb:Nat→Nat) (k:Nat):List Value:=(List.range k).flatMap (fun p=>[.pointer (some ⟨nb p,0,none⟩),.int .i64 0])
theorem a4h (nb:Nat→Nat) (k:Nat):mrow nb (k+1)=mrow nb k++[.pointer (some ⟨nb k,0,none⟩),.int .i64 0]:=by
 unfold mrow
 rw [List.range_succ,List.flatMap_append]
 simp
theorem b0i {nb nb':Nat→Nat} {k:Nat} (h:∀ p,p<k→nb p=nb' p):mrow nb k=mrow nb' k:=by
 induction k with
 | zero=>rfl
 | succ k ih=>rw [a4h,a4h,ih (fun p hp=>h p (by omega)),h k (by omega)]
theorem ap3 (nb:Nat→Nat) (k:Nat):(mrow nb k).length=k * 2:=by
 induction k with
 | zero=>rfl
 | succ k ih=>rw [a4h,List.length_append,ih];simp;omega
theorem b4g (nb:Nat→Nat) (k p:Nat) (hp:p<k):(mrow nb k)[p * 2]?=some (.pointer (some ⟨nb p,0,none⟩))∧(mrow nb k)[p * 2+1]?=some (.int .i64 0):=by
 induction k with
 | zero=>omega
 | succ k ih =>
  rw [a4h]
  have hl:=ap3 nb k
  by_cases e:p=k
  ·subst e
   rw [List.getElem?_append_right (by omega),List.getElem?_append_right (by omega),hl,Nat.sub_self,Nat.add_sub_cancel_left]
   exact ⟨rfl,rfl⟩
  ·rw [List.getElem?_append_left (by omega),List.getElem?_append_left (by omega)]
   exact ih (by omega)
theorem Tryz.b0e:(Tryz.prog.info? 161).map (fun i=>(i.zero,i.size,i.bytes))=some (some (.agg #[.pointer none,.int .i64 0]),2,16):=by kernel_rfl
structure Mk (z:Nat) (wr:World) (mb:Nat) (g:Gr) (k:Nat) (ma:Option Addr) (mcap:Nat) (nb:Nat→Nat) (Fp:Nat→Nat→Prop):Prop where
 c0:wr.cell? ⟨mb,0,none⟩=some (.slice ma k mcap)
 c1:wr.cell? ⟨mb,1,none⟩=some (.slice none 0 0)
 ty:∃ cur,wr.heap[mb]?=some (.cells cur 196 (0,0))
 own:wr.ownsRow 0 161 2 (.slice ma k mcap) k (mrow nb k)
 node:∀ p,p<k→a0m wr (nb p) g p (NS.new g) (Fp p)
 disj:∀ p q,p<k→q<k→p≠q→∀ j,Fp p j→¬ Fp q j
 sep:∀ p,p<k→∀ j,Fp p j→j≠mb∧¬ onB ma j
 new:z≤mb∧(∀ j,onB ma j→z≤j)∧∀ p,p<k→∀ j,Fp p j→z≤j
theorem Mk.lt {z:Nat} {wr:World} {mb:Nat} {g:Gr} {k:Nat} {ma:Option Addr} {mcap:Nat} {nb:Nat→Nat} {Fp:Nat→Nat→Prop} (h:Mk z wr mb g k ma mcap nb Fp):mb<wr.heap.size∧(∀ j,onB ma j→j<wr.heap.size∧j≠mb):=by
 refine ⟨lt_of_cell h.c0,fun j ⟨off,e⟩=>?_⟩
 rcases h.own.2 with ⟨he,_⟩ | ⟨g',cap',cur',he,_,hh,_⟩
 ·rw [e] at he;cases he
 ·cases he
  cases e
  obtain ⟨c,ht⟩:=h.ty
  exact ⟨lt_of_some hh,ty_ne hh ht (by decide)⟩
theorem Mk.step {z:Nat} {wr w2 w4:World} {mb:Nat} {g:Gr} {k:Nat} {ma ma':Option Addr} {mcap mcap':Nat} {nb:Nat→Nat} {Fp:Nat→Nat→Prop} {b:Nat} {F:Nat→Prop} (h:Mk z wr mb g k ma mcap nb Fp) (hz:z≤wr.heap.size) (hb:Below wr.heap.size wr w2) (hn:a0m w2 b g k (NS.new g) F) (hF:∀ j,F j→wr.heap.size≤j)
  (ha:Alike w2 w4 (onB ma)) (hown:w4.ownsRow 0 161 2 (.slice ma' (k+1) mcap') (k+1) (mrow nb k++[.pointer (some ⟨b,0,none⟩),.int .i64 0])) (hnew:∀ j,onB ma' j→onB ma j∨w2.heap.size≤j) :
  Mk z (w4.setCell ⟨mb,0,none⟩ (.slice ma' (k+1) mcap')) mb g (k+1) ma' mcap' (fun q=>if q=k then b else nb q) (fun q=>if q=k then F else Fp q):=by
 obtain ⟨hmb,hma⟩:=h.lt
 obtain ⟨cur,ht⟩:=h.ty
 have hs2:=hb.size
 have hnma:¬ onB ma mb:=fun hc=>(hma mb hc).2 rfl
 have hAll:Alike wr w4 (onB ma):=(Alike.of_below hb _).trans ha (fun _ _ h=>h)
 have hset:=Alike.setCell w4 ⟨mb,0,none⟩ (.slice ma' (k+1) mcap')
 have hty:w4.heap[mb]?=some (.cells cur 196 (0,0)):=(hAll.block mb hmb hnma).trans ht
 have hnF:∀ j,F j→j≠mb∧¬ onB ma j∧¬ onB ma' j:=fun j hj=>by
  have h1:=hF j hj
  have h2:=hn.lt hj
  refine ⟨by omega,fun hc=>by have:=(hma j hc).1;omega,fun hc=>?_⟩
  rcases hnew j hc with h3 | h3
  ·have:=(hma j h3).1;omega
  ·omega
 have hoF:∀ p,p<k→∀ j,Fp p j→j<wr.heap.size∧j≠mb∧¬ onB ma j∧¬ onB ma' j:=fun p hp j hj=>by
  have h1:=(h.node p hp).lt hj
  have h2:=h.sep p hp j hj
  refine ⟨h1,h2.1,h2.2,fun hc=>?_⟩
  rcases hnew j hc with h3 | h3
  ·exact h2.2 h3
  ·omega
 refine ⟨World.cell?_setCell_same _ _ _ (hAll.cell h.c0 hnma),(World.cell?_setCell_other _ _ _ _ (by intro h;simp only [Addr.mk.injEq] at h;omega)).trans (hAll.cell h.c1 hnma),⟨_,heap_setCell_same w4 mb 0 cur _ _ hty⟩,?_,fun p hp=>?_,fun p q hp hq hpq j h1 h2=>?_,fun p hp j hj=>?_,h.new.1,fun j hj=>?_,fun p hp j hj=>?_⟩
 ·have he:mrow (fun q=>if q=k then b else nb q) (k+1)=mrow nb k++[.pointer (some ⟨b,0,none⟩),.int .i64 0]:=by
   rw [a4h,if_pos rfl,b0i (nb:=fun q=>if q=k then b else nb q) (nb':=nb) (fun p hp=>if_neg (by omega))]
  rw [he]
  refine ⟨hown.1,?_⟩
  rcases hown.2 with h' | ⟨g',cap',cur',he,hg,hh,hr⟩
  ·exact Or.inl h'
  ·refine Or.inr ⟨g',cap',cur',he,hg,(hset.block g' (lt_of_some hh) ?_).trans hh,hr⟩
   intro e
   have e':g'=mb:=e
   subst e'
   exact ty_ne hh hty (by decide) rfl
 ·by_cases e:p=k
  ·subst e
   rw [if_pos rfl,if_pos rfl]
   exact (hn.alike ha (fun j hj=>(hnF j hj).2.1)).alike hset (fun j hj e=>(hnF j hj).1 e)
  ·rw [if_neg e,if_neg e]
   have hp':p<k:=by omega
   exact ((h.node p hp').alike hAll (fun j hj=>(hoF p hp' j hj).2.2.1)).alike hset (fun j hj e=>(hoF p hp' j hj).2.1 e)
 ·by_cases e:p=k
  ·subst e
   rw [if_pos rfl] at h1
   rw [if_neg (fun e=>hpq e.symm)] at h2
   have:=(hoF q (by omega) j h2).1
   have:=hF j h1
   omega
  ·rw [if_neg e] at h1
   by_cases e':q=k
   ·subst e'
    rw [if_pos rfl] at h2
    have:=(hoF p (by omega) j h1).1
    have:=hF j h2
    omega
   ·rw [if_neg e'] at h2
    exact h.disj p q (by omega) (by omega) hpq j h1 h2
 ·by_cases e:p=k
  ·rw [if_pos e] at hj
   exact ⟨(hnF j hj).1,(hnF j hj).2.2⟩
  ·rw [if_neg e] at hj
   have:=hoF p (by omega) j hj
   exact ⟨this.2.1,this.2.2.2⟩
 ·rcases hnew j hj with h1 | h1
  ·exact h.new.2.1 j h1
  ·omega
 ·by_cases e:p=k
  ·rw [if_pos e] at hj
   have:=hF j hj
   omega
  ·rw [if_neg e] at hj
   exact h.new.2.2 p (by omega) j hj
theorem Mk.all {z:Nat} {wr:World} {mb:Nat} {g:Gr} {ma:Option Addr} {mcap:Nat} {nb:Nat→Nat} {Fp:Nat→Nat→Prop} (h:Mk z wr mb g g.n ma mcap nb Fp) (hn:0<g.n):∃ F,a0p wr mb g ⟨fun _=>NS.new g,fun _=>0,[]⟩ F∧∀ j,F j→z≤j:=by
 rcases h.own.2 with ⟨_,h0⟩ | ⟨gm,cap',cur',he,_,hh,_⟩
 ·omega
 ·cases he
  have hc:∀ i u,i<g.n * 2→(mrow nb g.n)[i]?=some u→wr.cell? ⟨gm,i,none⟩=some u:=fun i u hi hu=>by
   rw [World.ownsRow.cellAt h.own i hi]
   exact hu
  refine ⟨_,⟨⟨gm,mcap,none,0,nb,Fp⟩,⟨h.c0,⟨h.c1,World.ownsRow_nil _ _ _ _,h.ty⟩,⟨_,hh⟩,fun p hp=>?_,h.node,h.disj,fun p hp j hj=>?_⟩,fun _=>Iff.rfl⟩,?_⟩
  ·obtain ⟨h1,h2⟩:=b4g nb g.n p hp
   exact ⟨hc _ _ (by omega) h1,hc _ _ (by omega) h2⟩
  ·have:=h.sep p hp j hj
   exact ⟨this.1,fun e=>this.2 ⟨0,by rw [e]⟩,fun ⟨_,e⟩=>by cases e⟩
  ·rintro j (e | e | ⟨_,e⟩ | ⟨p,hp,hj⟩)
   ·rw [e];exact h.new.1
   ·exact h.new.2.1 j ⟨0,by rw [e]⟩
   ·cases e
   ·exact h.new.2.2 p hp j hj
set_option maxHeartbeats 1000000 in
theorem az7 (A:Nat→Addr) (base:Nat) (N W B L:Int) (w:World) (hw:Sl w A base) (hG:okG N W B L=false) :
  Calls Tryz.prog 76 #[.agg #[.int .i64 N,.int .i64 W,.int .i64 B,.int .i64 L]] w fun e w'=>(∃ t y,e=.returned (.tuple #[.pointer none,.iface t y])∧a0l A (.iface t y) 1)∧Below w.heap.size w w':=by
 have HW:Hid _:=hw
 go_enter Tryz.func76,Tryz.ntmps76
 go_wp2_with fail
 have HX:Hid _:=a00 w (.cells #[.int .i64 N,.int .i64 W,.int .i64 B,.int .i64 L] 26)
 generalize w.alloc (.cells #[.int .i64 N,.int .i64 W,.int .i64 B,.int .i64 L] 26)=X at *
 refine (a2v (A 1) (A 5) N W B L X (HW.out.low HX.out).sent hG).mono ?_
 rintro e w1 ⟨⟨t,rfl⟩,hb1⟩
 have HB1:Hid _:=bthen HX.out hb1
 clear hb1
 go_wp2_with fail
 go_ret2
 exact ⟨⟨_,_,rfl,⟨Or.inr (Or.inl ⟨by decide,by decide,_,rfl⟩)⟩⟩,HB1.out⟩
set_option maxHeartbeats 1000000 in
theorem ao0 (A:Nat→Addr) (base:Nat) (g:Gr) (hg:g.Ok) (w:World) (hw:Sl w A base) :
  Calls Tryz.prog 76 #[.agg #[.int .i64 (g.n:Int),.int .i64 g.W,.int .i64 g.B,.int .i64 g.L]] w fun e w'=>(∃ mb F,e=.returned (.tuple #[.pointer (some ⟨mb,0,none⟩),.nilIface])∧a0p w' mb g ⟨fun _=>NS.new g,fun _=>0,[]⟩ F∧∀ k,F k→w.heap.size≤k)∧Below w.heap.size w w':=by
 have HW:Hid _:=hw
 have hn8:=hg.n
 clear hw
 go_enter Tryz.func76,Tryz.ntmps76
 go_wp2_with fail
 have HX:Hid _:=a00 w (.cells #[.int .i64 (g.n:Int),.int .i64 g.W,.int .i64 g.B,.int .i64 g.L] 26)
 have HFo:Hid _:=aa5 w (g.n:Int) g.W g.B g.L 26
 generalize w.alloc (.cells #[.int .i64 (g.n:Int),.int .i64 g.W,.int .i64 g.B,.int .i64 g.L] 26)=X at *
 refine (a2i (g.n:Int) g.W g.B g.L X hg.okG).mono ?_
 rintro e w1 ⟨rfl,hb1⟩
 have HB1:Hid _:=bthen HX.out hb1
 have HF1:Hid _:=HFo.out.below hb1 HFo.out.z
 clear hb1
 have HNN:Hid (∀ (x:World) (k:Nat),Sl x A base→k<g.n→Calls Tryz.prog 52 #[.agg #[.int .i64 (g.n:Int),.int .i64 g.W,.int .i64 g.B,.int .i64 g.L],.int .i64 (k:Int)] x fun e w'=>(∃ b F,e=.returned (.tuple #[.pointer (some ⟨b,0,none⟩),.nilIface])∧a0m w' b g k (NS.new g) F∧∀ j,F j→x.heap.size≤j)∧Below x.heap.size x w'):=fun x k hx hk=>by
  have hK:a0d (g.n:Int) g.W g.B g.L (k:Int)=0:=by
   unfold a0d
   rw [hg.okG,decide_eq_true ⟨by omega,by omega⟩]
   rfl
  refine (a5i A base (g.n:Int) g.W g.B g.L (k:Int) x hx).mono ?_
  rintro e w' ⟨⟨v,er,rfl,her,_,hyes⟩,hb⟩
  obtain ⟨b,F,rfl,h1,h2⟩:=hyes hK
  rw [hK] at her
  obtain rfl:=al4 her rfl
  exact ⟨⟨b,F,rfl,h1,h2⟩,hb⟩
 obtain ⟨c0,c1,c2,c3,cz⟩:=HF1.out
 have HMk:Hid (Mk w1.heap.size (w1.alloc (.cells #[.slice none 0 0,.slice none 0 0] 196)) w1.heap.size g 0 none 0 (fun _=>0) (fun _ _=>False)):=by
  have e:∀ i,(w1.alloc (.cells #[.slice none 0 0,.slice none 0 0] 196)).cell? ⟨w1.heap.size,i,none⟩=#[Value.slice none 0 0,Value.slice none 0 0][i]?:=fun i=>cell_of_row _ _ i _ _ (0,0) (heap_alloc_new _ _)
  exact ⟨e 0,e 1,⟨_,heap_alloc_new _ _⟩,World.ownsRow_nil _ _ _ _,fun p hp=>absurd hp (Nat.not_lt_zero _),fun p q hp=>absurd hp (Nat.not_lt_zero _),fun p hp=>absurd hp (Nat.not_lt_zero _),Nat.le_refl _,fun j ⟨_,e⟩=>(by cases e),fun p hp=>absurd hp (Nat.not_lt_zero _)⟩
 have HBm:Hid (Below w.heap.size w (w1.alloc (.cells #[.slice none 0 0,.slice none 0 0] 196))):=bthen HB1.out (a00 _ _)
 have HFm:Hid _:=HF1.out.below (a00 w1 (.cells #[.slice none 0 0,.slice none 0 0] 196)) cz
 obtain ⟨i0,hi,hz0,hz1,hz2⟩:=info_parts Tryz.b0e
 go_wp2_with fail
 clear c0 c1 c2 c3
 go_loopw [18] (fun c wr=>∃ k ma mcap nb Fp,k≤g.n∧c=.int .i64 (k:Nat)∧Mk w1.heap.size wr w1.heap.size g k ma mcap nb Fp∧Below w.heap.size w wr∧Four w.heap.size wr (g.n:Int) g.W g.B g.L) (fun c _=>g.n-(intOf c).toNat)
 case atStart=>exact ⟨0,none,0,_,_,Nat.zero_le _,rfl,HMk.out,HBm.out,HFm.out⟩
 case round =>
  obtain ⟨k,ma,mcap,nb,Fp,hkn,rfl,hmk,hbel,hfo⟩:=hrel
  have HMK:Hid _:=hmk
  have HBel:Hid _:=hbel
  have HFO:Hid _:=hfo
  clear hmk hbel hfo
  by_cases hlt:k<g.n
  ·have hki:(k:Int)<(g.n:Int):=by omega
   obtain ⟨c0,c1,c2,c3,cz'⟩:=HFO.out
   go_wp2_with fail
   refine (HNN.out wr k (HW.out.low HBel.out) hlt).mono ?_
   rintro e w2 ⟨⟨b,F,rfl,hn,hF⟩,hb2⟩
   have HN:Hid _:=hn
   have HFn:Hid _:=hF
   have HB2:Hid _:=hb2
   have HO:Hid (w2.ownsRow 0 161 2 (.slice ma k mcap) k (mrow nb k)):=by
    refine ⟨HMK.out.own.1,?_⟩
    rcases HMK.out.own.2 with h' | ⟨g',cap',cur',he,hg',hh,hr⟩
    ·exact Or.inl h'
    ·exact Or.inr ⟨g',cap',cur',he,hg',(hb2.block g' (lt_of_some hh)).trans hh,hr⟩
   obtain ⟨hmb,hma⟩:=HMK.out.lt
   have d0:=(hb2.cell (p:=⟨w1.heap.size,0,none⟩) hmb).trans HMK.out.c0
   have hb2s:=hb2.size
   clear hn hF hb2 c0 c1 c2 c3 cz'
   go_wp2_with (at_builtin;refine wpList_append_own_at _ rfl (.tmp 34) (.tmp 37) 194 rfl 0 161 i0 _ 2 16 Tryz.underlying194 hi hz0 hz1 hz2 rfl (by decide) _ _ _ rfl (World.ownsRow.alloc HO.out _) ⟨w2.heap.size,0,none⟩ 1 1 [.pointer (some ⟨b,0,none⟩),.int .i64 0] rfl rfl ?q1 ?q2 (by unfold maxLen;omega) (by omega) (Nat.zero_le _) ?_)
   case q1 =>
    intro q u hq
    match q,hq with
    | 0,hq=>simp at hq;subst hq;simp [Addr.add]
    | 1,hq=>simp at hq;subst hq;simp [Addr.add]
   case q2 =>
    intro u hu
    simp at hu
    rcases hu with rfl | rfl<;>rfl
   intro v' w4 hown hgrow _ hat
   have HOM:Hid (∀ j,(Value.slice ma k mcap).ownBlock=some j→onB ma j):=fun j hj=>by
    rcases HMK.out.own.2 with ⟨he,_⟩ | ⟨g',cap',cur',he,_⟩
    ·rw [he] at hj;cases hj
    ·cases he
     cases hj
     exact ⟨0,rfl⟩
   have HA4:Hid (Alike w2 w4 (onB ma)):=(Alike.of_below (a00 w2 _) _).trans (Alike.a2h hgrow) (fun j _ hj=>HOM.out j hj)
   obtain ⟨a4,c4,hg4⟩:=a01 hown
   subst hg4
   have HOw:Hid _:=hown
   have HNw:Hid (∀ j,onB a4 j→onB ma j∨w2.heap.size≤j):=fun j ⟨off,hj⟩=>by
    rcases hown.2 with ⟨he,_⟩ | ⟨g',cap',cur',he,_⟩
    ·rw [hj] at he;cases he
    ·cases he
     cases hj
     rcases hat with h | h
     ·exact Or.inl (HOM.out _ h.symm)
     ·cases h
      refine Or.inr ?_
      simp
   have HMK':Hid _:=HMK.out.step (by omega) HB2.out HN.out HFn.out HA4.out HOw.out HNw.out
   have hmnb:¬ onB ma w1.heap.size:=fun hc=>(hma _ hc).2 rfl
   have d04:=HA4.out.cell d0 hmnb
   have hf4:w4.frozen? ⟨w1.heap.size,0,none⟩=false:=HA4.out.frozen (by omega) ((HB2.out.frozen (p:=⟨w1.heap.size,0,none⟩) hmb).trans (a0h HMK.out.ty 0)) hmnb
   have hzb:w.heap.size≤w1.heap.size:=HB1.out.size
   have HB4:Hid (Below w.heap.size w (w4.setCell ⟨w1.heap.size,0,none⟩ (.slice a4 (k+1) c4))):=(((bthen HBel.out HB2.out).alloc (by have:=HBel.out.size;omega) _).grown hgrow (by have:=HBel.out.size;simp;omega) (fun j hj=>Nat.le_trans hzb (HMK.out.new.2.1 j (HOM.out j hj)))).setCell (by exact hzb) _
   have HF4:Hid (Four w.heap.size (w4.setCell ⟨w1.heap.size,0,none⟩ (.slice a4 (k+1) c4)) (g.n:Int) g.W g.B g.L):=by
    have h1:=HFO.out.below HB2.out HFO.out.z
    have h2:=h1.alike HA4.out (fun hc=>by have:=(HMK.out.new.2.1 _ hc);omega)
    exact h2.alike (Alike.setCell _ _ _) (by show ¬ w.heap.size=w1.heap.size;omega)
   clear hown hgrow hat d0
   go_wp2_with fail
   go_roundw
   case rel=>exact ⟨k+1,a4,c4,_,_,by omega,by go_num,HMK'.out,HB4.out,HF4.out⟩
   case measure=>simp [intOf];omega
  ·have hkn':k=g.n:=by omega
   subst hkn'
   obtain ⟨F,h1,h2⟩:=HMK.out.all (by omega)
   go_wp2_with fail
   go_ret2
   exact ⟨⟨_,F,rfl,h1,fun j hj=>Nat.le_trans HB1.out.size (h2 j hj)⟩,HBel.out⟩
structure XR where
 q:Int
 k:Nat
 x:MNet
def MNet.sayR (g:Gr) (x:MNet) (p:Int) (body:ByteArray):XR:=if a08 g.n p then ⟨((x.nd p.toNat).say g p.toNat body).q,((x.nd p.toNat).say g p.toNat body).k,x.say g p.toNat body⟩ else ⟨0,1,x⟩
def MNet.tickR (g:Gr) (x:MNet) (p:Int):XR:=if a08 g.n p then ⟨0,0,x.tick g p.toNat⟩ else ⟨0,1,x⟩
def MNet.at (x:MNet) (k:Int):Option Pk:=if 0≤k then x.bag[k.toNat]? else none
def MNet.a0y (g:Gr) (x:MNet) (k:Int):XR:=match x.at k with
 | some t=>⟨0,((x.nd t.to.toNat).hear g t.to.toNat t.text).k,x.a2g g k.toNat t⟩
 | none=>⟨0,1,x⟩
def MNet.dropR (x:MNet) (k:Int):XR:=match x.at k with
 | some _=>⟨0,0,{ x with bag:=x.bag.eraseIdx k.toNat }⟩
 | none=>⟨0,1,x⟩
def MNet.copyR (x:MNet) (k:Int):XR:=match x.at k with
 | some t=>⟨0,0,{ x with bag:=x.bag++[t] }⟩
 | none=>⟨0,1,x⟩
def MNet.sendR (g:Gr) (x:MNet) (p:Int) (s:ByteArray):XR:=if a08 g.n p then (if s.size≤100 then ⟨0,0,{ x with bag:=x.bag++[⟨p,s⟩] }⟩ else ⟨0,2,x⟩) else ⟨0,1,x⟩
structure PR where
 t:Pk
 k:Nat
def MNet.peekR (x:MNet) (k:Int):PR:=match x.at k with
 | some t=>⟨t,0⟩
 | none=>⟨⟨0,⟨#[]⟩⟩,1⟩
structure WR where
 l:List Wd
 k:Nat
def MNet.a2l (g:Gr) (x:MNet) (p:Int):WR:=if a08 g.n p then ⟨(x.nd p.toNat).hs,0⟩ else ⟨[],1⟩
def MNet.a2k (g:Gr) (x:MNet) (p:Int):WR:=if a08 g.n p then ⟨(x.nd p.toNat).kept,0⟩ else ⟨[],1⟩
def MNet.a1s (g:Gr) (x:MNet) (p:Int):XR:=if a08 g.n p then ⟨x.ref p.toNat,0,x⟩ else ⟨0,1,x⟩
theorem a0s {n:Nat} {p:Int} (h:a08 n p=true):∃ q:Nat,p=q∧q<n:=by
 have:=of_decide_eq_true h
 exact ⟨p.toNat,by omega,by omega⟩
theorem a3z {x:MNet} {k:Int} {t:Pk} (h:x.at k=some t):∃ q:Nat,k=q∧x.bag[q]?=some t:=by
 unfold MNet.at at h
 split at h
 ·exact ⟨k.toNat,by omega,h⟩
 ·cases h
theorem a8f {x:MNet} {k:Int} (h:x.at k=none):a08 x.bag.length k=false:=by
 unfold MNet.at at h
 refine decide_eq_false (fun hc=>?_)
 rw [if_pos hc.1,List.getElem?_eq_none_iff] at h
 omega
structure NetAt (w:World) (fb:Nat) (g:Gr) (x:MNet) (F:Nat→Prop):Prop where
 how:∃ mb F0,w.cell? ⟨fb,0,none⟩=some (.pointer (some ⟨mb,0,none⟩))∧a0p w mb g x F0∧¬ F0 fb∧∀ k,F k↔k=fb∨F0 k
theorem NetAt.alike {w w':World} {fb:Nat} {g:Gr} {x:MNet} {F E:Nat→Prop} (h:NetAt w fb g x F) (ha:Alike w w' E) (hE:∀ k,F k→¬ E k):NetAt w' fb g x F:=by
 obtain ⟨mb,F0,h1,h2,h3,h4⟩:=h.how
 exact ⟨mb,F0,ha.cell h1 (hE fb ((h4 fb).2 (Or.inl rfl))),h2.alike ha (fun k hk=>hE k ((h4 k).2 (Or.inr hk))),h3,h4⟩
theorem NetAt.low {w w':World} {fb:Nat} {g:Gr} {x:MNet} {F:Nat→Prop} (h:NetAt w fb g x F) (hb:Below w.heap.size w w'):NetAt w' fb g x F:=h.alike (Alike.of_below hb (fun _=>False)) (fun _ _ h=>h)
theorem NetAt.lt {w:World} {fb:Nat} {g:Gr} {x:MNet} {F:Nat→Prop} (h:NetAt w fb g x F) {k:Nat} (hk:F k):k<w.heap.size:=by
 obtain ⟨mb,F0,h1,h2,h3,h4⟩:=h.how
 rcases (h4 k).1 hk with rfl | h5
 ·exact lt_of_cell h1
 ·exact h2.lt h5
structure NDid (w w':World) (fb:Nat) (g:Gr) (F:Nat→Prop) (x:MNet):Prop where
 net:∃ F',NetAt w' fb g x F'∧∀ k,F' k→F k∨w.heap.size≤k
 rest:Alike w w' F
theorem NDid.low {w w1 w2:World} {fb:Nat} {g:Gr} {F:Nat→Prop} {x:MNet} (h:NDid w w1 fb g F x) (hb:Below w1.heap.size w1 w2):NDid w w2 fb g F x:=by
 obtain ⟨⟨F',h1,h2⟩,h3⟩:=h
 exact ⟨⟨F',h1.low hb,h2⟩,h3.trans (Alike.of_below hb (fun _=>False)) (fun _ _ h=>h.elim)⟩
theorem NDid.sl {w w':World} {fb:Nat} {g:Gr} {F:Nat→Prop} {x:MNet} {A:Nat→Addr} {base:Nat} (h:NDid w w' fb g F x) (hw:Sl w A base) (hF:∀ k,F k→base≤k):Sl w' A base:=hw.alike h.rest (fun k hk hc=>by have:=hF k hc;omega)
theorem NDid.of {w w':World} {fb mb:Nat} {g:Gr} {F F0:Nat→Prop} {x':MNet} (hc:w.cell? ⟨fb,0,none⟩=some (.pointer (some ⟨mb,0,none⟩))) (hn:¬ F0 fb) (hF:∀ k,F k↔k=fb∨F0 k) (h:MDid w w' mb g F0 x'):NDid w w' fb g F x':=by
 obtain ⟨⟨F',h1,h2⟩,h3⟩:=h
 refine ⟨⟨fun k=>k=fb∨F' k,⟨mb,F',h3.cell hc hn,h1,fun hf=>?_,fun _=>Iff.rfl⟩,fun k hk=>?_⟩,(Alike.refl w F).trans h3 (fun k _ hk=>(hF k).2 (Or.inr hk))⟩
 ·rcases h2 fb hf with h | h
  ·exact hn h
  ·have:=lt_of_cell hc
   omega
 ·rcases hk with e | hk
  ·exact Or.inl ((hF k).2 (Or.inl e))
  ·rcases h2 k hk with h | h
   ·exact Or.inl ((hF k).2 (Or.inr h))
   ·exact Or.inr h
theorem am9 (A:Nat→Addr) (base mb:Nat) (g:Gr) (x:MNet) (F:Nat→Prop) (p:Int) (body:ByteArray) (hg:g.Ok) (hx:x.Ok g) (w:World) (hw:Sl w A base) (hF:∀ k,F k→base≤k) (h:a0p w mb g x F) :
  Calls Tryz.prog 77 #[.pointer (some ⟨mb,0,none⟩),.int .i64 p,.string body] w fun e w'=>∃ er,e=.returned (.tuple #[.int .i64 (x.sayR g p body).q,er])∧a0l A er (x.sayR g p body).k∧MDid w w' mb g F (x.sayR g p body).x:=by
 unfold MNet.sayR
 by_cases hn:a08 g.n p=true
 ·obtain ⟨q,rfl,hq⟩:=a0s hn
  rw [if_pos hn]
  exact ap4 A base mb g x F q body hg hq hx w hw hF h
 ·rw [if_neg hn]
  refine (az8 A base mb g x F p body (by simpa using hn) w hw h).mono ?_
  rintro e w' ⟨⟨er,rfl,her⟩,hb⟩
  exact ⟨er,rfl,her,MDid.none h hb⟩
theorem am1 (A:Nat→Addr) (base mb:Nat) (g:Gr) (x:MNet) (F:Nat→Prop) (p:Int) (hg:g.Ok) (hx:x.Ok g) (w:World) (hw:Sl w A base) (h:a0p w mb g x F) :
  Calls Tryz.prog 79 #[.pointer (some ⟨mb,0,none⟩),.int .i64 p] w fun e w'=>∃ er,e=.returned er∧a0l A er (x.tickR g p).k∧MDid w w' mb g F (x.tickR g p).x:=by
 unfold MNet.tickR
 by_cases hn:a08 g.n p=true
 ·obtain ⟨q,rfl,hq⟩:=a0s hn
  rw [if_pos hn]
  refine (ag2 A base mb g x F q hg hq hx w hw h).mono ?_
  rintro e w' ⟨rfl,hd⟩
  exact ⟨_,rfl,⟨Or.inl ⟨rfl,rfl⟩⟩,hd⟩
 ·rw [if_neg hn]
  refine (aq6 A base mb g x F p (by simpa using hn) w hw h).mono ?_
  rintro e w' ⟨⟨er,rfl,her⟩,hb⟩
  exact ⟨er,rfl,her,MDid.none h hb⟩
theorem a8z (A:Nat→Addr) (base mb:Nat) (g:Gr) (x:MNet) (F:Nat→Prop) (k:Int) (hg:g.Ok) (hx:x.Ok g) (w:World) (hw:Sl w A base) (hF:∀ k,F k→base≤k) (h:a0p w mb g x F) :
  Calls Tryz.prog 78 #[.pointer (some ⟨mb,0,none⟩),.int .i64 k] w fun e w'=>∃ er,e=.returned er∧a0l A er (x.a0y g k).k∧MDid w w' mb g F (x.a0y g k).x:=by
 unfold MNet.a0y
 cases e:x.at k with
 | some t =>
  obtain ⟨q,rfl,hk⟩:=a3z e
  refine (a9i A base mb g x F q t hg hk hx w hw hF h).mono ?_
  rintro e w' ⟨er,rfl,her,hd⟩
  exact ⟨er,rfl,her,hd⟩
 | none =>
  refine (a9q A base mb g x F k (a8f e) w hw h).mono ?_
  rintro e w' ⟨⟨er,rfl,her⟩,hb⟩
  exact ⟨er,rfl,her,MDid.none h hb⟩
theorem ak1 (A:Nat→Addr) (base mb:Nat) (g:Gr) (x:MNet) (F:Nat→Prop) (k:Int) (_hg:g.Ok) (hx:x.Ok g) (w:World) (hw:Sl w A base) (_hF:∀ k,F k→base≤k) (h:a0p w mb g x F) :
  Calls Tryz.prog 82 #[.pointer (some ⟨mb,0,none⟩),.int .i64 k] w fun e w'=>∃ er,e=.returned er∧a0l A er (x.dropR k).k∧MDid w w' mb g F (x.dropR k).x:=by
 unfold MNet.dropR
 cases e:x.at k with
 | some t =>
  obtain ⟨q,rfl,hk⟩:=a3z e
  refine (am5 mb g x F q t hk hx w h).mono ?_
  rintro e w' ⟨rfl,hd⟩
  exact ⟨_,rfl,⟨Or.inl ⟨rfl,rfl⟩⟩,hd⟩
 | none =>
  refine (ap1 A base mb g x F k (a8f e) w hw h).mono ?_
  rintro e w' ⟨⟨er,rfl,her⟩,hb⟩
  exact ⟨er,rfl,her,MDid.none h hb⟩
theorem ak3 (A:Nat→Addr) (base mb:Nat) (g:Gr) (x:MNet) (F:Nat→Prop) (k:Int) (_hg:g.Ok) (hx:x.Ok g) (w:World) (hw:Sl w A base) (_hF:∀ k,F k→base≤k) (h:a0p w mb g x F) :
  Calls Tryz.prog 97 #[.pointer (some ⟨mb,0,none⟩),.int .i64 k] w fun e w'=>∃ er,e=.returned er∧a0l A er (x.copyR k).k∧MDid w w' mb g F (x.copyR k).x:=by
 unfold MNet.copyR
 cases e:x.at k with
 | some t =>
  obtain ⟨q,rfl,hk⟩:=a3z e
  refine (ak5 mb g x F q t hk hx w h).mono ?_
  rintro e w' ⟨rfl,hd⟩
  exact ⟨_,rfl,⟨Or.inl ⟨rfl,rfl⟩⟩,hd⟩
 | none =>
  refine (ao3 A base mb g x F k (a8f e) w hw h).mono ?_
  rintro e w' ⟨⟨er,rfl,her⟩,hb⟩
  exact ⟨er,rfl,her,MDid.none h hb⟩
theorem ak2 (A:Nat→Addr) (base mb:Nat) (g:Gr) (x:MNet) (F:Nat→Prop) (p:Int) (s:ByteArray) (hx:x.Ok g) (w:World) (hw:Sl w A base) (h:a0p w mb g x F) :
  Calls Tryz.prog 143 #[.pointer (some ⟨mb,0,none⟩),.int .i64 p,.string s] w fun e w'=>∃ er,e=.returned er∧a0l A er (x.sendR g p s).k∧MDid w w' mb g F (x.sendR g p s).x:=by
 unfold MNet.sendR
 by_cases hn:a08 g.n p=true
 ·obtain ⟨q,rfl,hq⟩:=a0s hn
  rw [if_pos hn]
  by_cases hs:s.size≤100
  ·rw [if_pos hs]
   refine (ah4 A base mb g x F q s hq hs hx w hw h).mono ?_
   rintro e w' ⟨rfl,hd⟩
   exact ⟨_,rfl,⟨Or.inl ⟨rfl,rfl⟩⟩,hd⟩
  ·rw [if_neg hs]
   refine (ae7 A base mb g x F q s hq (by omega) w hw h).mono ?_
   rintro e w' ⟨⟨er,rfl,her⟩,hb⟩
   exact ⟨er,rfl,her,MDid.none h hb⟩
 ·rw [if_neg hn]
  refine (an3 A base mb g x F p s (by simpa using hn) w hw h).mono ?_
  rintro e w' ⟨⟨er,rfl,her⟩,hb⟩
  exact ⟨er,rfl,her,MDid.none h hb⟩
theorem ag0 (A:Nat→Addr) (base mb:Nat) (g:Gr) (x:MNet) (F:Nat→Prop) (k:Int) (w:World) (hw:Sl w A base) (h:a0p w mb g x F) :
  Calls Tryz.prog 95 #[.pointer (some ⟨mb,0,none⟩),.int .i64 k] w fun e w'=>(∃ er,e=.returned (.tuple #[.agg #[.int .i64 (x.peekR k).t.to,.string (x.peekR k).t.text],er])∧a0l A er (x.peekR k).k)∧Below w.heap.size w w':=by
 obtain ⟨M,hM,_⟩:=h.how
 unfold MNet.peekR
 cases e:x.at k with
 | some t =>
  obtain ⟨q,rfl,hk⟩:=a3z e
  refine (a3e mb M.wa M.wcap x.bag q t hk w hM.way).mono ?_
  rintro e w' ⟨rfl,hb⟩
  exact ⟨⟨_,rfl,⟨Or.inl ⟨rfl,rfl⟩⟩⟩,hb⟩
 | none =>
  refine (a3v A base mb M.wa M.wcap x.bag k (a8f e) w hw hM.way).mono ?_
  rintro e w' ⟨⟨er,rfl,her,_⟩,hb⟩
  exact ⟨⟨er,rfl,her⟩,hb⟩
theorem ae6 (A:Nat→Addr) (base mb:Nat) (g:Gr) (x:MNet) (F:Nat→Prop) (p:Int) (hg:g.Ok) (hx:x.Ok g) (w:World) (hw:Sl w A base) (h:a0p w mb g x F) :
  Calls Tryz.prog 61 #[.pointer (some ⟨mb,0,none⟩),.int .i64 p] w fun e w'=>(∃ v er,e=.returned (.tuple #[v,er])∧a0l A er (x.a2l g p).k∧Wrd w' w.heap.size v (x.a2l g p).l)∧Below w.heap.size w w':=by
 unfold MNet.a2l
 by_cases hn:a08 g.n p=true
 ·obtain ⟨q,rfl,hq⟩:=a0s hn
  rw [if_pos hn]
  refine (ac7 A base mb g x F q hg hq hx w hw h).mono ?_
  rintro e w' ⟨⟨v,rfl,hv⟩,hb⟩
  exact ⟨⟨v,_,rfl,⟨Or.inl ⟨rfl,rfl⟩⟩,hv⟩,hb⟩
 ·rw [if_neg hn]
  refine (ag9 A base mb g x F p (by simpa using hn) w hw h).mono ?_
  rintro e w' ⟨⟨er,rfl,her⟩,hb⟩
  exact ⟨⟨_,er,rfl,her,Wrd.nil _ _⟩,hb⟩
theorem ab7 (A:Nat→Addr) (base mb:Nat) (g:Gr) (x:MNet) (F:Nat→Prop) (p:Int) (hg:g.Ok) (hx:x.Ok g) (w:World) (hw:Sl w A base) (h:a0p w mb g x F) :
  Calls Tryz.prog 63 #[.pointer (some ⟨mb,0,none⟩),.int .i64 p] w fun e w'=>(∃ v er,e=.returned (.tuple #[v,er])∧a0l A er (x.a2k g p).k∧Wrd w' w.heap.size v (x.a2k g p).l)∧Below w.heap.size w w':=by
 unfold MNet.a2k
 by_cases hn:a08 g.n p=true
 ·obtain ⟨q,rfl,hq⟩:=a0s hn
  rw [if_pos hn]
  refine (ac5 A base mb g x F q hg hq hx w hw h).mono ?_
  rintro e w' ⟨⟨v,rfl,hv⟩,hb⟩
  exact ⟨⟨v,_,rfl,⟨Or.inl ⟨rfl,rfl⟩⟩,hv⟩,hb⟩
 ·rw [if_neg hn]
  refine (ai3 A base mb g x F p (by simpa using hn) w hw h).mono ?_
  rintro e w' ⟨⟨er,rfl,her⟩,hb⟩
  exact ⟨⟨_,er,rfl,her,Wrd.nil _ _⟩,hb⟩
theorem a9g (A:Nat→Addr) (base mb:Nat) (g:Gr) (x:MNet) (F:Nat→Prop) (p:Int) (w:World) (hw:Sl w A base) (h:a0p w mb g x F) :
  Calls Tryz.prog 142 #[.pointer (some ⟨mb,0,none⟩),.int .i64 p] w fun e w'=>(∃ er,e=.returned (.tuple #[.int .i64 (x.a1s g p).q,er])∧a0l A er (x.a1s g p).k)∧Below w.heap.size w w':=by
 unfold MNet.a1s
 by_cases hn:a08 g.n p=true
 ·obtain ⟨q,rfl,hq⟩:=a0s hn
  rw [if_pos hn]
  refine (a92 A base mb g x F q hq w hw h).mono ?_
  rintro e w' ⟨rfl,hb⟩
  exact ⟨⟨_,rfl,⟨Or.inl ⟨rfl,rfl⟩⟩⟩,hb⟩
 ·rw [if_neg hn]
  refine (a9l A base mb g x F p (by simpa using hn) w hw h).mono ?_
  rintro e w' ⟨⟨er,rfl,her⟩,hb⟩
  exact ⟨⟨er,rfl,her⟩,hb⟩
set_option maxHeartbeats 1000000 in
theorem b8b (A:Nat→Addr) (base fb:Nat) (g:Gr) (x:MNet) (F:Nat→Prop) (p:Int) (body:ByteArray) (hg:g.Ok) (hx:x.Ok g) (w:World) (hw:Sl w A base) (hF:∀ k,F k→base≤k) (h:NetAt w fb g x F) :
  Calls Tryz.prog 40 #[.pointer (some ⟨fb,0,none⟩),.int .i64 p,.string body] w fun e w'=>e=.returned (.tuple #[.int .i64 (x.sayR g p body).q,.int .i64 ((x.sayR g p body).k:Int)])∧NDid w w' fb g F (x.sayR g p body).x:=by
 obtain ⟨mb,F0,c0,hM,hn,hFt⟩:=h.how
 have HC:Hid _:=am9 A base mb g x F0 p body hg hx w hw (fun k hk=>hF k ((hFt k).2 (Or.inr hk))) hM
 have HD:Hid (∀ w1,MDid w w1 mb g F0 (x.sayR g p body).x→NDid w w1 fb g F (x.sayR g p body).x∧Sl w1 A base):=fun w1 hd=>by
  have h1:=NDid.of c0 hn hFt hd
  exact ⟨h1,h1.sl hw hF⟩
 generalize x.sayR g p body=R at *
 clear h hM hw hF hFt hn
 go_enter Tryz.func40,Tryz.ntmps40
 go_wp2_with fail
 refine (show Calls _ _ _ _ _ from HC.out).mono ?_
 rintro e w1 ⟨er,rfl,her,hd⟩
 have HE:Hid _:=her
 have HD1:Hid _:=HD.out w1 hd
 clear her hd HC
 go_wp2_with fail
 refine (a0c A er R.k HE.out w1 HD1.out.2.s).mono ?_
 rintro e w2 ⟨rfl,hb2⟩
 have HD2:Hid _:=HD1.out.1.low hb2
 clear hb2
 go_wp2_with fail
 go_ret2
 exact ⟨rfl,HD2.out⟩
set_option maxHeartbeats 1000000 in
theorem b6y (A:Nat→Addr) (base fb:Nat) (g:Gr) (x:MNet) (F:Nat→Prop) (p:Int) (hg:g.Ok) (hx:x.Ok g) (w:World) (hw:Sl w A base) (hF:∀ k,F k→base≤k) (h:NetAt w fb g x F) :
  Calls Tryz.prog 43 #[.pointer (some ⟨fb,0,none⟩),.int .i64 p] w fun e w'=>e=.returned (.int .i64 ((x.tickR g p).k:Int))∧NDid w w' fb g F (x.tickR g p).x:=by
 obtain ⟨mb,F0,c0,hM,hn,hFt⟩:=h.how
 have HC:Hid _:=am1 A base mb g x F0 p hg hx w hw hM
 have HD:Hid (∀ w1,MDid w w1 mb g F0 (x.tickR g p).x→NDid w w1 fb g F (x.tickR g p).x∧Sl w1 A base):=fun w1 hd=>by
  have h1:=NDid.of c0 hn hFt hd
  exact ⟨h1,h1.sl hw hF⟩
 generalize x.tickR g p=R at *
 clear h hM hw hF hFt hn
 go_enter Tryz.func43,Tryz.ntmps43
 go_wp2_with fail
 refine (show Calls _ _ _ _ _ from HC.out).mono ?_
 rintro e w1 ⟨er,rfl,her,hd⟩
 have HE:Hid _:=her
 have HD1:Hid _:=HD.out w1 hd
 clear her hd HC
 go_wp2_with fail
 refine (a0c A er R.k HE.out w1 HD1.out.2.s).mono ?_
 rintro e w2 ⟨rfl,hb2⟩
 have HD2:Hid _:=HD1.out.1.low hb2
 clear hb2
 go_wp2_with fail
 go_ret
 exact ⟨rfl,HD2.out⟩
set_option maxHeartbeats 1000000 in
theorem ay9 (A:Nat→Addr) (base fb:Nat) (g:Gr) (x:MNet) (F:Nat→Prop) (k:Int) (hg:g.Ok) (hx:x.Ok g) (w:World) (hw:Sl w A base) (hF:∀ k,F k→base≤k) (h:NetAt w fb g x F) :
  Calls Tryz.prog 41 #[.pointer (some ⟨fb,0,none⟩),.int .i64 k] w fun e w'=>e=.returned (.int .i64 ((x.a0y g k).k:Int))∧NDid w w' fb g F (x.a0y g k).x:=by
 obtain ⟨mb,F0,c0,hM,hn,hFt⟩:=h.how
 have HC:Hid _:=a8z A base mb g x F0 k hg hx w hw (fun k hk=>hF k ((hFt k).2 (Or.inr hk))) hM
 have HD:Hid (∀ w1,MDid w w1 mb g F0 (x.a0y g k).x→NDid w w1 fb g F (x.a0y g k).x∧Sl w1 A base):=fun w1 hd=>by
  have h1:=NDid.of c0 hn hFt hd
  exact ⟨h1,h1.sl hw hF⟩
 generalize x.a0y g k=R at *
 clear h hM hw hF hFt hn
 go_enter Tryz.func41,Tryz.ntmps41
 go_wp2_with fail
 refine (show Calls _ _ _ _ _ from HC.out).mono ?_
 rintro e w1 ⟨er,rfl,her,hd⟩
 have HE:Hid _:=her
 have HD1:Hid _:=HD.out w1 hd
 clear her hd HC
 go_wp2_with fail
 refine (a0c A er R.k HE.out w1 HD1.out.2.s).mono ?_
 rintro e w2 ⟨rfl,hb2⟩
 have HD2:Hid _:=HD1.out.1.low hb2
 clear hb2
 go_wp2_with fail
 go_ret
 exact ⟨rfl,HD2.out⟩
set_option maxHeartbeats 1000000 in
theorem b73 (A:Nat→Addr) (base fb:Nat) (g:Gr) (x:MNet) (F:Nat→Prop) (k:Int) (hg:g.Ok) (hx:x.Ok g) (w:World) (hw:Sl w A base) (hF:∀ k,F k→base≤k) (h:NetAt w fb g x F) :
  Calls Tryz.prog 50 #[.pointer (some ⟨fb,0,none⟩),.int .i64 k] w fun e w'=>e=.returned (.int .i64 ((x.dropR k).k:Int))∧NDid w w' fb g F (x.dropR k).x:=by
 obtain ⟨mb,F0,c0,hM,hn,hFt⟩:=h.how
 have HC:Hid _:=ak1 A base mb g x F0 k hg hx w hw (fun k hk=>hF k ((hFt k).2 (Or.inr hk))) hM
 have HD:Hid (∀ w1,MDid w w1 mb g F0 (x.dropR k).x→NDid w w1 fb g F (x.dropR k).x∧Sl w1 A base):=fun w1 hd=>by
  have h1:=NDid.of c0 hn hFt hd
  exact ⟨h1,h1.sl hw hF⟩
 generalize x.dropR k=R at *
 clear h hM hw hF hFt hn
 go_enter Tryz.func50,Tryz.ntmps50
 go_wp2_with fail
 refine (show Calls _ _ _ _ _ from HC.out).mono ?_
 rintro e w1 ⟨er,rfl,her,hd⟩
 have HE:Hid _:=her
 have HD1:Hid _:=HD.out w1 hd
 clear her hd HC
 go_wp2_with fail
 refine (a0c A er R.k HE.out w1 HD1.out.2.s).mono ?_
 rintro e w2 ⟨rfl,hb2⟩
 have HD2:Hid _:=HD1.out.1.low hb2
 clear hb2
 go_wp2_with fail
 go_ret
 exact ⟨rfl,HD2.out⟩
set_option maxHeartbeats 1000000 in
theorem b7d (A:Nat→Addr) (base fb:Nat) (g:Gr) (x:MNet) (F:Nat→Prop) (k:Int) (hg:g.Ok) (hx:x.Ok g) (w:World) (hw:Sl w A base) (hF:∀ k,F k→base≤k) (h:NetAt w fb g x F) :
  Calls Tryz.prog 60 #[.pointer (some ⟨fb,0,none⟩),.int .i64 k] w fun e w'=>e=.returned (.int .i64 ((x.copyR k).k:Int))∧NDid w w' fb g F (x.copyR k).x:=by
 obtain ⟨mb,F0,c0,hM,hn,hFt⟩:=h.how
 have HC:Hid _:=ak3 A base mb g x F0 k hg hx w hw (fun k hk=>hF k ((hFt k).2 (Or.inr hk))) hM
 have HD:Hid (∀ w1,MDid w w1 mb g F0 (x.copyR k).x→NDid w w1 fb g F (x.copyR k).x∧Sl w1 A base):=fun w1 hd=>by
  have h1:=NDid.of c0 hn hFt hd
  exact ⟨h1,h1.sl hw hF⟩
 generalize x.copyR k=R at *
 clear h hM hw hF hFt hn
 go_enter Tryz.func60,Tryz.ntmps60
 go_wp2_with fail
 refine (show Calls _ _ _ _ _ from HC.out).mono ?_
 rintro e w1 ⟨er,rfl,her,hd⟩
 have HE:Hid _:=her
 have HD1:Hid _:=HD.out w1 hd
 clear her hd HC
 go_wp2_with fail
 refine (a0c A er R.k HE.out w1 HD1.out.2.s).mono ?_
 rintro e w2 ⟨rfl,hb2⟩
 have HD2:Hid _:=HD1.out.1.low hb2
 clear hb2
 go_wp2_with fail
 go_ret
 exact ⟨rfl,HD2.out⟩
set_option maxHeartbeats 1000000 in
theorem b6k (A:Nat→Addr) (base fb:Nat) (g:Gr) (x:MNet) (F:Nat→Prop) (p:Int) (s:ByteArray) (hx:x.Ok g) (w:World) (hw:Sl w A base) (hF:∀ k,F k→base≤k) (h:NetAt w fb g x F) :
  Calls Tryz.prog 87 #[.pointer (some ⟨fb,0,none⟩),.int .i64 p,.string s] w fun e w'=>e=.returned (.int .i64 ((x.sendR g p s).k:Int))∧NDid w w' fb g F (x.sendR g p s).x:=by
 obtain ⟨mb,F0,c0,hM,hn,hFt⟩:=h.how
 have HC:Hid _:=ak2 A base mb g x F0 p s hx w hw hM
 have HD:Hid (∀ w1,MDid w w1 mb g F0 (x.sendR g p s).x→NDid w w1 fb g F (x.sendR g p s).x∧Sl w1 A base):=fun w1 hd=>by
  have h1:=NDid.of c0 hn hFt hd
  exact ⟨h1,h1.sl hw hF⟩
 generalize x.sendR g p s=R at *
 clear h hM hw hF hFt hn
 go_enter Tryz.func87,Tryz.ntmps87
 go_wp2_with fail
 refine (show Calls _ _ _ _ _ from HC.out).mono ?_
 rintro e w1 ⟨er,rfl,her,hd⟩
 have HE:Hid _:=her
 have HD1:Hid _:=HD.out w1 hd
 clear her hd HC
 go_wp2_with fail
 refine (a0c A er R.k HE.out w1 HD1.out.2.s).mono ?_
 rintro e w2 ⟨rfl,hb2⟩
 have HD2:Hid _:=HD1.out.1.low hb2
 clear hb2
 go_wp2_with fail
 go_ret
 exact ⟨rfl,HD2.out⟩
set_option maxHeartbeats 1000000 in
theorem b7a (fb:Nat) (g:Gr) (x:MNet) (F:Nat→Prop) (w:World) (h:NetAt w fb g x F) :
  Calls Tryz.prog 44 #[.pointer (some ⟨fb,0,none⟩)] w fun e w'=>e=.returned (.int .i64 (x.bag.length:Int))∧w'=w:=by
 obtain ⟨mb,F0,c0,hM,hn,hFt⟩:=h.how
 obtain ⟨M,hm,_⟩:=hM.how
 have HC:Hid _:=aj1 mb M.wa M.wcap x.bag w hm.way
 clear h hM hFt hn hm
 go_enter Tryz.func44,Tryz.ntmps44
 go_wp2_with fail
 refine (show Calls _ _ _ _ _ from HC.out).mono ?_
 rintro e w1 ⟨rfl,rfl⟩
 go_wp2_with fail
 go_ret
 exact ⟨rfl,rfl⟩
set_option maxHeartbeats 1000000 in
theorem b4j (A:Nat→Addr) (base fb:Nat) (g:Gr) (x:MNet) (F:Nat→Prop) (p:Int) (hg:g.Ok) (hx:x.Ok g) (w:World) (hw:Sl w A base) (h:NetAt w fb g x F) :
  Calls Tryz.prog 29 #[.pointer (some ⟨fb,0,none⟩),.int .i64 p] w fun e w'=>(∃ v,e=.returned (.tuple #[v,.int .i64 ((x.a2l g p).k:Int)])∧Wrd w' w.heap.size v (x.a2l g p).l)∧Below w.heap.size w w':=by
 obtain ⟨mb,F0,c0,hM,hn,hFt⟩:=h.how
 have HC:Hid _:=ae6 A base mb g x F0 p hg hx w hw hM
 have HW:Hid _:=hw
 generalize x.a2l g p=R at *
 clear h hM hFt hn hx hw
 go_enter Tryz.func29,Tryz.ntmps29
 go_wp2_with fail
 refine (show Calls _ _ _ _ _ from HC.out).mono ?_
 rintro e w1 ⟨⟨v,er,rfl,her,hv⟩,hb1⟩
 have HE:Hid _:=her
 have HV:Hid _:=hv
 have HB1:Hid _:=hb1
 obtain ⟨av,cv,hsh⟩:=a01 hv.own
 subst hsh
 clear her hv hb1 HC
 go_wp2_with fail
 refine (a0c A er R.k HE.out w1 (HW.out.low HB1.out).s).mono ?_
 rintro e w2 ⟨rfl,hb2⟩
 have HV2:Hid _:=HV.out.low hb2
 have HB2:Hid _:=bthen HB1.out hb2
 clear hb2
 go_wp2_with fail
 go_ret2
 exact ⟨⟨_,rfl,HV2.out⟩,HB2.out⟩
set_option maxHeartbeats 1000000 in
theorem b63 (A:Nat→Addr) (base fb:Nat) (g:Gr) (x:MNet) (F:Nat→Prop) (p:Int) (hg:g.Ok) (hx:x.Ok g) (w:World) (hw:Sl w A base) (h:NetAt w fb g x F) :
  Calls Tryz.prog 31 #[.pointer (some ⟨fb,0,none⟩),.int .i64 p] w fun e w'=>(∃ v,e=.returned (.tuple #[v,.int .i64 ((x.a2k g p).k:Int)])∧Wrd w' w.heap.size v (x.a2k g p).l)∧Below w.heap.size w w':=by
 obtain ⟨mb,F0,c0,hM,hn,hFt⟩:=h.how
 have HC:Hid _:=ab7 A base mb g x F0 p hg hx w hw hM
 have HW:Hid _:=hw
 generalize x.a2k g p=R at *
 clear h hM hFt hn hx hw
 go_enter Tryz.func31,Tryz.ntmps31
 go_wp2_with fail
 refine (show Calls _ _ _ _ _ from HC.out).mono ?_
 rintro e w1 ⟨⟨v,er,rfl,her,hv⟩,hb1⟩
 have HE:Hid _:=her
 have HV:Hid _:=hv
 have HB1:Hid _:=hb1
 obtain ⟨av,cv,hsh⟩:=a01 hv.own
 subst hsh
 clear her hv hb1 HC
 go_wp2_with fail
 refine (a0c A er R.k HE.out w1 (HW.out.low HB1.out).s).mono ?_
 rintro e w2 ⟨rfl,hb2⟩
 have HV2:Hid _:=HV.out.low hb2
 have HB2:Hid _:=bthen HB1.out hb2
 clear hb2
 go_wp2_with fail
 go_ret2
 exact ⟨⟨_,rfl,HV2.out⟩,HB2.out⟩
set_option maxHeartbeats 1000000 in
theorem ay5 (A:Nat→Addr) (base fb:Nat) (g:Gr) (x:MNet) (F:Nat→Prop) (p:Int) (w:World) (hw:Sl w A base) (h:NetAt w fb g x F) :
  Calls Tryz.prog 86 #[.pointer (some ⟨fb,0,none⟩),.int .i64 p] w fun e w'=>e=.returned (.tuple #[.int .i64 (x.a1s g p).q,.int .i64 ((x.a1s g p).k:Int)])∧Below w.heap.size w w':=by
 obtain ⟨mb,F0,c0,hM,hn,hFt⟩:=h.how
 have HC:Hid _:=a9g A base mb g x F0 p w hw hM
 have HW:Hid _:=hw
 generalize x.a1s g p=R at *
 clear h hM hFt hn hw
 go_enter Tryz.func86,Tryz.ntmps86
 go_wp2_with fail
 refine (show Calls _ _ _ _ _ from HC.out).mono ?_
 rintro e w1 ⟨⟨er,rfl,her⟩,hb1⟩
 have HE:Hid _:=her
 have HB1:Hid _:=hb1
 clear her hb1 HC
 go_wp2_with fail
 refine (a0c A er R.k HE.out w1 (HW.out.low HB1.out).s).mono ?_
 rintro e w2 ⟨rfl,hb2⟩
 have HB2:Hid _:=bthen HB1.out hb2
 clear hb2
 go_wp2_with fail
 go_ret2
 exact ⟨rfl,HB2.out⟩
set_option maxHeartbeats 1000000 in
theorem b6s (A:Nat→Addr) (base fb:Nat) (g:Gr) (x:MNet) (F:Nat→Prop) (k:Int) (w:World) (hw:Sl w A base) (h:NetAt w fb g x F) :
  Calls Tryz.prog 57 #[.pointer (some ⟨fb,0,none⟩),.int .i64 k] w fun e w'=>e=.returned (.tuple #[.agg #[.int .i64 (x.peekR k).t.to,.string (x.peekR k).t.text],.int .i64 ((x.peekR k).k:Int)])∧Below w.heap.size w w':=by
 obtain ⟨mb,F0,c0,hM,hn,hFt⟩:=h.how
 have HC:Hid _:=fun w1 (hb:Below w.heap.size w w1)=>ag0 A base mb g x F0 k w1 (hw.low hb) (hM.low hb)
 have HW:Hid _:=hw
 have HC0:Hid (∀ w1,Below w.heap.size w w1→w1.cell? ⟨fb,0,none⟩=some (.pointer (some ⟨mb,0,none⟩))):=fun w1 hb=>(hb.cell (p:=⟨fb,0,none⟩) (lt_of_cell c0)).trans c0
 generalize x.peekR k=R at *
 clear h hM hFt hn hw c0
 have HB0:Hid _:=a00 w (.cells #[.int .i64 0,.string ⟨#[]⟩] 109)
 have c0:=HC0.out _ HB0.out
 go_enter Tryz.func57,Tryz.ntmps57
 have HZ:Hid (w.heap.size<(w.alloc (.cells #[.int .i64 0,.string ⟨#[]⟩] 109)).heap.size):=by show _<_;simp
 have HR:Hid (∀ y,Below (w.alloc (.cells #[.int .i64 0,.string ⟨#[]⟩] 109)).heap.size (w.alloc (.cells #[.int .i64 0,.string ⟨#[]⟩] 109)) y→y.cell? ⟨w.heap.size,0,none⟩=some (.int .i64 0)∧y.cell? ⟨w.heap.size,1,none⟩=some (.string ⟨#[]⟩)∧∀ i,y.frozen? ⟨w.heap.size,i,none⟩=false):=fun y hy=>by
  have e:∀ i,y.cell? ⟨w.heap.size,i,none⟩=#[Value.int .i64 0,.string ⟨#[]⟩][i]?:=fun i=>(hy.cell (p:=⟨w.heap.size,i,none⟩) HZ.out).trans (cell_of_row _ _ i _ _ (0,0) (heap_alloc_new _ _))
  exact ⟨e 0,e 1,fun i=>(hy.frozen (p:=⟨w.heap.size,i,none⟩) HZ.out).trans (frozen_of_row _ _ i _ _ (heap_alloc_new _ _))⟩
 go_wp2_with fail
 refine (show Calls _ _ _ _ _ from HC.out _ HB0.out).mono ?_
 rintro e w1 ⟨⟨er,rfl,her⟩,hb1⟩
 have HE:Hid _:=her
 have HB1:Hid _:=hb1
 obtain ⟨r0,r1,rf⟩:=HR.out w1 hb1
 have HBX:Hid (Below w1.heap.size w1 (w1.alloc (.cells #[.int .i64 R.t.to,.string R.t.text] 109))):=a00 _ _
 have HLt:Hid (w.heap.size<w1.heap.size):=Nat.lt_of_lt_of_le HZ.out hb1.size
 have HBx:Hid ((w1.alloc (.cells #[.int .i64 R.t.to,.string R.t.text] 109)).cell? ⟨w1.heap.size,0,none⟩=some (.int .i64 R.t.to)∧(w1.alloc (.cells #[.int .i64 R.t.to,.string R.t.text] 109)).cell? ⟨w1.heap.size,1,none⟩=some (.string R.t.text)∧w1.heap.size<(w1.alloc (.cells #[.int .i64 R.t.to,.string R.t.text] 109)).heap.size):=by
  have e:∀ i,(w1.alloc (.cells #[.int .i64 R.t.to,.string R.t.text] 109)).cell? ⟨w1.heap.size,i,none⟩=#[Value.int .i64 R.t.to,.string R.t.text][i]?:=fun i=>cell_of_row _ _ i _ _ (0,0) (heap_alloc_new _ _)
  exact ⟨e 0,e 1,by simp⟩
 clear her hb1 HC c0 r0 r1 rf
 go_wp2_with fail
 generalize w1.alloc (.cells #[.int .i64 R.t.to,.string R.t.text] 109)=X at *
 obtain ⟨k0,k1,kz⟩:=HBx.out
 have hne:w1.heap.size≠w.heap.size:=by have:=HLt.out;omega
 have hne':w.heap.size≠w1.heap.size:=fun h=>hne h.symm
 have HSX:Hid (Sl X A base):=(HW.out.low (bthen HB0.out HB1.out)).low HBX.out
 go_region_held3 (fun y=>y.cell? ⟨w1.heap.size,0,none⟩=some (.int .i64 R.t.to)∧y.cell? ⟨w1.heap.size,1,none⟩=some (.string R.t.text))
  (first|(exact ⟨k0,k1⟩)|(with_reducible exact ⟨(a7l (ax2 w2 w.heap.size 0 _) 1 _).cell HK2.out.1 hne,(a7l (ax2 w2 w.heap.size 0 _) 1 _).cell HK2.out.2 hne⟩)|(exact HK2.out) | go_keep)
  (first|(go_at_call 53;refine (a0c A er R.k HE.out _ (HSX.out.low (Below.refl _ _).drew).s).mono ?_;rintro e w2 ⟨rfl,hb2⟩;have HB2:Hid (Below X.heap.size X w2):=(Below.refl _ _).drew.trans hb2;have HK2:Hid (w2.cell? ⟨w1.heap.size,0,none⟩=some (.int .i64 R.t.to)∧w2.cell? ⟨w1.heap.size,1,none⟩=some (.string R.t.text)):=⟨(HB2.out.cell (p:=⟨w1.heap.size,0,none⟩) kz).trans k0,(HB2.out.cell (p:=⟨w1.heap.size,1,none⟩) kz).trans k1⟩;obtain ⟨r0,r1,rf⟩:=HR.out w2 (bthen HB1.out (bthen HBX.out HB2.out));clear hb2))
 go_wp2_with fail
 have q0:((w2.setCell ⟨w.heap.size,0,none⟩ (.int .i64 R.t.to)).setCell ⟨w.heap.size,1,none⟩ (.string R.t.text)).cell? ⟨w.heap.size,0,none⟩=some (.int .i64 R.t.to):=(World.cell?_setCell_other _ _ _ _ (by intro h;simp only [Addr.mk.injEq] at h;omega)).trans (World.cell?_setCell_same _ _ _ r0)
 have q1:((w2.setCell ⟨w.heap.size,0,none⟩ (.int .i64 R.t.to)).setCell ⟨w.heap.size,1,none⟩ (.string R.t.text)).cell? ⟨w.heap.size,1,none⟩=some (.string R.t.text):=World.cell?_setCell_same _ _ _ ((World.cell?_setCell_other _ _ _ _ (by intro h;simp only [Addr.mk.injEq] at h;omega)).trans r1)
 have HBE:Hid (Below w.heap.size w ((w2.setCell ⟨w.heap.size,0,none⟩ (.int .i64 R.t.to)).setCell ⟨w.heap.size,1,none⟩ (.string R.t.text))):=((bthen HB0.out (bthen HB1.out (bthen HBX.out HB2.out))).setCell (p:=⟨w.heap.size,0,none⟩) (Nat.le_refl _) _).setCell (p:=⟨w.heap.size,1,none⟩) (Nat.le_refl _) _
 generalize (w2.setCell ⟨w.heap.size,0,none⟩ (.int .i64 R.t.to)).setCell ⟨w.heap.size,1,none⟩ (.string R.t.text)=Z at *
 refine bodyPost_ret (v:=.tuple #[.agg #[.int .i64 R.t.to,.string R.t.text],.int .i64 (R.k:Int)]) (by simp [results,Tryz.results57,go_sem,q0,q1]) rfl ⟨rfl,HBE.out⟩
def MNet.new (g:Gr):MNet:=⟨fun _=>NS.new g,fun _=>0,[]⟩
set_option maxHeartbeats 1000000 in
theorem ax9 (A:Nat→Addr) (base:Nat) (g:Gr) (hg:g.Ok) (w:World) (hw:Sl w A base) :
  Calls Tryz.prog 39 #[.agg #[.int .i64 (g.n:Int),.int .i64 g.W,.int .i64 g.B,.int .i64 g.L]] w fun e w'=>(∃ fb F,e=.returned (.tuple #[.pointer (some ⟨fb,0,none⟩),.int .i64 0])∧NetAt w' fb g (MNet.new g) F∧∀ k,F k→w.heap.size≤k)∧Below w.heap.size w w':=by
 have HW:Hid _:=hw
 have HXE:Hid ((⟨fun _=>NS.new g,fun _=>0,[]⟩:MNet)=MNet.new g):=rfl
 go_enter Tryz.func39,Tryz.ntmps39
 go_wp2_with fail
 have HX:Hid _:=a00 w (.cells #[.int .i64 (g.n:Int),.int .i64 g.W,.int .i64 g.B,.int .i64 g.L] 26)
 generalize w.alloc (.cells #[.int .i64 (g.n:Int),.int .i64 g.W,.int .i64 g.B,.int .i64 g.L] 26)=X at *
 refine (ao0 A base g hg X (HW.out.low HX.out)).mono ?_
 rintro e w1 ⟨⟨mb,F,rfl,hm,hF⟩,hb1⟩
 rw [HXE.out] at hm
 have HM:Hid _:=hm
 have HF:Hid _:=hF
 have HB1:Hid _:=bthen HX.out hb1
 clear hm hF hb1
 go_wp2_with fail
 go_ret2
 have hz:=HX.out.size
 have hz1:=HB1.out.size
 refine ⟨⟨w1.heap.size,fun k=>k=w1.heap.size∨F k,rfl,⟨mb,F,?_,HM.out.low (a00 _ _),fun hc=>?_,fun _=>Iff.rfl⟩,fun k hk=>?_⟩,bthen HB1.out (a00 _ _)⟩
 ·rw [cell_of_row _ _ 0 _ _ (0,0) (heap_alloc_new _ _)]
  rfl
 ·have:=HM.out.lt hc
  omega
 ·rcases hk with e | hk
  ·omega
  ·have:=HF.out k hk
   omega
set_option maxHeartbeats 1000000 in
theorem b2w (A:Nat→Addr) (base:Nat) (N W B L:Int) (w:World) (hw:Sl w A base) (hG:okG N W B L=false) :
  Calls Tryz.prog 39 #[.agg #[.int .i64 N,.int .i64 W,.int .i64 B,.int .i64 L]] w fun e w'=>e=.returned (.tuple #[.pointer none,.int .i64 1])∧Below w.heap.size w w':=by
 have HW:Hid _:=hw
 go_enter Tryz.func39,Tryz.ntmps39
 go_wp2_with fail
 have HX:Hid _:=a00 w (.cells #[.int .i64 N,.int .i64 W,.int .i64 B,.int .i64 L] 26)
 generalize w.alloc (.cells #[.int .i64 N,.int .i64 W,.int .i64 B,.int .i64 L] 26)=X at *
 refine (az7 A base N W B L X (HW.out.low HX.out) hG).mono ?_
 rintro e w1 ⟨⟨t,y,rfl,her⟩,hb1⟩
 have HE:Hid _:=her
 have HB1:Hid _:=bthen HX.out hb1
 clear her hb1
 go_wp2_with fail
 refine (a0c A _ 1 HE.out w1 (HW.out.low HB1.out).s).mono ?_
 rintro e w2 ⟨rfl,hb2⟩
 have HB2:Hid _:=bthen HB1.out hb2
 clear hb2
 go_wp2_with fail
 go_ret2
 exact ⟨rfl,HB2.out⟩
theorem b65 {ws:List Wd} {k:Nat} {t:Wd} (h:ws[k]?=some t):(wrow ws)[k * 3]?=some (.int .i64 t.org)∧(wrow ws)[k * 3+1]?=some (.int .i64 t.seq)∧(wrow ws)[k * 3+2]?=some (.string t.body):=by
 have hk:=(List.getElem?_eq_some_iff.1 h).1
 have hd:ws=ws.take k++(t :: ws.drop (k+1)):=by
  rw [←(List.getElem?_eq_some_iff.1 h).2]
  conv=>lhs;rw [←List.take_append_drop k ws,List.drop_eq_getElem_cons hk]
 have hl:(wrow (ws.take k)).length=k * 3:=by rw [a5n,List.length_take];omega
 have he:wrow ws=wrow (ws.take k)++(.int .i64 t.org :: .int .i64 t.seq :: .string t.body :: wrow (ws.drop (k+1))):=by
  conv=>lhs;rw [hd,a3y]
  rfl
 rw [he]
 refine ⟨?_,?_,?_⟩
 ·rw [List.getElem?_append_right (by omega),hl,Nat.sub_self]
  rfl
 ·rw [List.getElem?_append_right (by omega),hl,Nat.add_sub_cancel_left]
  rfl
 ·rw [List.getElem?_append_right (by omega),hl,Nat.add_sub_cancel_left]
  rfl
theorem Wrd.get {w:World} {base:Nat} {ad:Option Addr} {len cap:Nat} {ws:List Wd} (h:Wrd w base (.slice ad len cap) ws) {k:Nat} {t:Wd} (hk:ws[k]?=some t):∃ g,ad=some ⟨g,0,none⟩∧base≤g∧w.cell? ⟨g,k * 3,none⟩=some (.int .i64 t.org)∧w.cell? ⟨g,k * 3+1,none⟩=some (.int .i64 t.seq)∧w.cell? ⟨g,k * 3+2,none⟩=some (.string t.body):=by
 have hkl:=(List.getElem?_eq_some_iff.1 hk).1
 obtain ⟨h0,h1,h2⟩:=b65 hk
 have ho:=h.own
 rcases ho.2 with ⟨_,h0⟩ | ⟨g,cap',cur,he,hg,hh,_⟩
 ·omega
 ·cases he
  refine ⟨g,rfl,hg,?_,?_,?_⟩
  ·rw [World.ownsRow.cellAt ho (k * 3) (by omega)]
   exact h0
  ·rw [World.ownsRow.cellAt ho (k * 3+1) (by omega)]
   exact h1
  ·rw [World.ownsRow.cellAt ho (k * 3+2) (by omega)]
   exact h2
structure Sd where
 org:Int
 seq:Int
 body:ByteArray
 pb:Nat
 past:List Int
structure Sn where
 ad:Option Addr
 cap:Nat
 ws:List Wd
structure CLay where
 fb:Nat
 Fx:Nat→Prop
 sa:Option Addr
 scap:Nat
 na:Option Addr
 ncap:Nat
theorem a07 {w w':World} {t:TypeId} {c:Nat} {ad:Option Addr} {len cap n:Nat} {xs:List Value} {E:Nat→Prop} (h:w.ownsRow 0 t c (.slice ad len cap) n xs) (ha:Alike w w' E) (hE:∀ k,onB ad k→¬ E k):w'.ownsRow 0 t c (.slice ad len cap) n xs:=by
 refine ⟨h.1,?_⟩
 rcases h.2 with h' | ⟨g',cap',cur,he,hg,hh,hr⟩
 ·exact Or.inl h'
 ·refine Or.inr ⟨g',cap',cur,he,hg,(ha.block g' (lt_of_some hh) ?_).trans hh,hr⟩
  cases he
  exact hE g' ⟨0,rfl⟩
theorem a5d {w w':World} {E:Nat→Prop} {z:Nat} (ha:Alike w w' E) (hE:∀ k,E k→z≤k) (hz:z≤w.heap.size):Below z w w':=
 ⟨ha.same.1,ha.same.2.1,ha.same.2.2,ha.size,fun k hk=>ha.block k (by omega) (fun hc=>by have:=hE k hc;omega)⟩
def I64 (c:Int):Prop:=-9223372036854775808≤c∧c≤9223372036854775807
def pk (c n:Int):Int:=(if c<0 then -(c+1) else c) % n
theorem pk_bd (c n:Int) (h:0<n):0≤pk c n∧pk c n<n:=⟨Int.emod_nonneg _ (by omega),Int.emod_lt_of_pos _ h⟩
end Go.Proofs.YtabecbjfamphbaaGreatDoor
namespace Go.Proofs.YtabecbjfamphbaaGreatDoor
set_option maxRecDepth 100000
inductive Msg where
 | data (q:Nat) (f:Fm)
 | state (q:Nat) (v:List Int)
def clk (nd:Nat→NS) (p o:Nat):Int:=vw (nd p).vs p o
inductive HV (g:Gr) (said:List Fm):List Wd→Prop
 | none:HV g said []
 | more {hs:List Wd} {f:Fm}:HV g said hs→f∈said→f.seq=(cntW hs f.org.toNat:Int)+1→(∀ q,q<g.n→f.vec.getD q 0≤(cntW hs q:Int))→HV g said (hs++[f.word])
def passM (g:Gr) (p:Nat) (f:Fm) (fr:Nat):List (Nat × Msg):=((List.range g.n).filter (fun (q:Nat)=>decide (q≠p∧(q:Int)≠f.org∧q≠fr))).map (fun q=>(q,.data p f))
theorem b1q {g:Gr} {p:Nat} {f:Fm} {fr:Nat} {x:Nat × Msg} (h:x∈passM g p f fr):x.2=.data p f∧x.1<g.n∧x.1≠p∧f.org≠x.1:=by
 obtain ⟨q,hq,rfl⟩:=List.mem_map.1 h
 obtain ⟨h1,h2⟩:=List.mem_filter.1 hq
 have h3:=of_decide_eq_true h2
 exact ⟨rfl,List.mem_range.1 h1,h3.1,fun e=>h3.2.1 e.symm⟩
theorem ag3 {g:Gr} {p:Nat} {f:Fm} {fr:Nat}:(passM g p f fr).length≤g.n:=by
 unfold passM
 rw [List.length_map]
 refine Nat.le_trans (List.length_filter_le _ _) ?_
 rw [List.length_range]
 exact Nat.le_refl _
def tickM (g:Gr) (p:Nat) (s:NS):List (Nat × Msg):=(List.range g.n).flatMap (fun (q:Nat)=>if q=p then [] else ((s.st.filter (fun f=>decide (f.org≠(q:Int)∧vw s.vs q f.org.toNat<f.seq))).map (fun f=>(q,Msg.data p f)))++[(q,.state p (s.vs.getD p []))])
end Go.Proofs.YtabecbjfamphbaaGreatDoor
namespace Go.Proofs.YtabecbjfamphbaaGreatDoor
open Go.RowKit Go.Stop Go.Extern
set_option maxRecDepth 100000
def Msg.Ok (g:Gr):Msg→Prop
 | .data q f=>q<g.n∧f.Ok g
 | .state q v=>q<g.n∧v.length=g.n∧∀ o,o<g.n→0≤v.getD o 0∧v.getD o 0≤g.L
def Msg.text (g:Gr):Msg→ByteArray
 | .data q f=>textM g q f
 | .state q v=>a4d g q v
def encP (g:Gr) (x:Nat × Msg):Pk:=⟨(x.1:Int),x.2.text g⟩
theorem a94 {l:List Int} {n:Nat} {P:Int→Prop} (hl:l.length=n) (h:∀ i,i<n→P (l.getD i 0)):∀ v∈l,P v:=fun v hv=>by
 obtain ⟨i,hi,rfl⟩:=List.mem_iff_getElem.1 hv
 have:=h i (by omega)
 rw [List.getD_eq_getElem?_getD,List.getElem?_eq_getElem hi] at this
 exact this
theorem a5y {g:Gr} {q:Nat} {f:Fm} (hq:q<g.n) (hf:f.Ok g):Fits g.n g.W g.B g.L 1 q f.org f.seq f.low f.vec f.body:=by
 have h1:=hf.lt
 have h2:=hf.a8a
 have h3:=hf.seq
 have h4:=hf.low
 have h5:=hf.len
 exact ⟨by omega,by omega,by omega,a94 hf.len hf.vec,Or.inr ⟨rfl,by omega,by omega,h3.1,h3.2,h4.1,h4.2.1,h4.2.2,hf.own,hf.body⟩⟩
theorem a6u {g:Gr} {q:Nat} {v:List Int} (hq:q<g.n) (hl:v.length=g.n) (hv:∀ o,o<g.n→0≤v.getD o 0∧v.getD o 0≤g.L):Fits g.n g.W g.B g.L 2 q 0 0 0 v ⟨#[]⟩:=
 ⟨by omega,by omega,by omega,a94 hl hv,Or.inl ⟨rfl,rfl,rfl,rfl,rfl⟩⟩
theorem as6 {g:Gr} (hg:g.Ok) {K F O S Lw:Int} {vs:List Int} {body:ByteArray} (h:Fits g.n g.W g.B g.L K F O S Lw vs body):encR g.n g.W g.B g.L K F O S Lw vs body=(a04 g.n K F O S Lw vs body,0):=by
 unfold encR
 rw [if_pos hg.okG,if_pos (b37 h)]
theorem a7v {g:Gr} (hg:g.Ok) {q:Nat} {f:Fm} (hq:q<g.n) (hf:f.Ok g):textM g q f=txt (a04 g.n 1 q f.org f.seq f.low f.vec f.body):=by
 unfold textM
 rw [as6 hg (a5y hq hf)]
theorem a8e {g:Gr} (hg:g.Ok) {q:Nat} {v:List Int} (hq:q<g.n) (hl:v.length=g.n) (hv:∀ o,o<g.n→0≤v.getD o 0∧v.getD o 0≤g.L):a4d g q v=txt (a04 g.n 2 q 0 0 0 v ⟨#[]⟩):=by
 unfold a4d
 rw [as6 hg (a6u hq hl hv)]
theorem b3c {g:Gr} (hg:g.Ok) {m:Msg} (hm:m.Ok g):rAll g.n g.W g.B g.L (m.text g)=none∧(m.text g).size≤100∧9+2 * g.n≤(m.text g).size:=by
 have hn:=hg.n
 cases m with
 | data q f =>
  have h1:=b1z hg.okG (a5y hm.1 hm.2)
  have hb:=hm.2.body
  have hB:=hg.B
  show rAll g.n g.W g.B g.L (textM g q f)=none∧(textM g q f).size≤100∧_
  rw [a7v hg hm.1 hm.2]
  refine ⟨h1.1,?_,?_⟩
  ·rw [h1.2.2.2.2.2.2.2.2];omega
  ·show _≤(textM g q f).size
   rw [a7v hg hm.1 hm.2,h1.2.2.2.2.2.2.2.2];omega
 | state q v =>
  have h1:=b0q hg.okG (a6u hm.1 hm.2.1 hm.2.2)
  show rAll g.n g.W g.B g.L (a4d g q v)=none∧(a4d g q v).size≤100∧_
  rw [a8e hg hm.1 hm.2.1 hm.2.2]
  refine ⟨h1.1,?_,?_⟩
  ·rw [h1.2.2.2.2];omega
  ·show _≤(a4d g q v).size
   rw [a8e hg hm.1 hm.2.1 hm.2.2,h1.2.2.2.2];omega
theorem af4 (g:Gr) (p:Nat) (f:Fm) (fr:Nat):passL (textM g p f) p f.org fr g.n=(passM g p f fr).map (encP g):=by
 unfold passL passM
 rw [List.map_map]
 have:((List.range g.n).filter (fun (q:Nat)=>decide ((q:Int)≠(p:Int)∧(q:Int)≠f.org∧(q:Int)≠(fr:Int))))=((List.range g.n).filter (fun (q:Nat)=>decide (q≠p∧(q:Int)≠f.org∧q≠fr))):=by
  apply List.filter_congr
  intro q _
  rw [decide_eq_decide]
  constructor
  ·rintro ⟨h1,h2,h3⟩;exact ⟨by omega,h2,by omega⟩
  ·rintro ⟨h1,h2,h3⟩;exact ⟨by omega,h2,by omega⟩
 rw [this]
 rfl
theorem b5g (g:Gr) (p:Nat) (s:NS):s.tick g p=(tickM g p s).map (encP g):=by
 have h:∀ k,a0z g p s k=((List.range k).flatMap (fun (q:Nat)=>if q=p then [] else ((s.st.filter (fun f=>decide (f.org≠(q:Int)∧vw s.vs q f.org.toNat<f.seq))).map (fun f=>(q,Msg.data p f)))++[(q,.state p (s.vs.getD p []))])).map (encP g):=fun k=>by
  induction k with
  | zero=>rfl
  | succ k ih =>
   rw [List.range_succ,List.flatMap_append,List.map_append,←ih]
   rw [show a0z g p s (k+1)=if k=p then a0z g p s k else a0z g p s k++tickW g p s.vs k s.st++[⟨(k:Int),a4d g p (s.vs.getD p [])⟩] from rfl]
   simp only [List.flatMap_cons,List.flatMap_nil,List.append_nil]
   by_cases e:k=p
   ·rw [if_pos e,if_pos e]
    exact (List.append_nil _).symm
   ·rw [if_neg e,if_neg e,List.append_assoc]
    congr 1
    rw [List.map_append,List.map_map]
    rfl
 exact h g.n
end Go.Proofs.YtabecbjfamphbaaGreatDoor
