/- A part of the proof. -/
import Derived.Test.YtabecbjfamphbaaGreatDoorM39
namespace Go.Proofs.YtabecbjfamphbaaGreatDoor
open Go.RowKit Go.Stop Go.Extern
set_option maxRecDepth 100000
set_option maxHeartbeats 4000000
structure Kn where
 fb:Nat
 rb:Nat
 g:Gr
 p:Nat
 s:NS
def Kn.cells (k:Kn):List Value:=[.pointer (some ⟨k.fb,0,none⟩),.pointer (some ⟨k.rb,0,none⟩)]
def knrow (ks:List Kn):List Value:=ks.flatMap Kn.cells
theorem al5 (a b:List Kn):knrow (a++b)=knrow a++knrow b:=by simp [knrow]
theorem ai1:∀ (ks:List Kn) (i:Nat) (k:Kn),ks[i]?=some k→(knrow ks)[i * 2]?=some (.pointer (some ⟨k.fb,0,none⟩))∧(knrow ks)[i * 2+1]?=some (.pointer (some ⟨k.rb,0,none⟩))
 | [],i,k,h=>by simp at h
 | a :: ks,0,k,h=>by
  simp at h
  subst h
  simp [knrow,Kn.cells]
 | a :: ks,i+1,k,h=>by
  have h':=ai1 ks i k (by simpa using h)
  have e:knrow (a :: ks)=.pointer (some ⟨a.fb,0,none⟩) :: .pointer (some ⟨a.rb,0,none⟩) :: knrow ks:=by simp [knrow,Kn.cells]
  rw [e,show (i+1) * 2+1=(i * 2+1)+1+1 by omega,show (i+1) * 2=(i * 2)+1+1 by omega]
  simpa using h'
theorem ak4:∀ (ks:List Kn) (i:Nat) (k k':Kn),ks[i]?=some k→k'.fb=k.fb→k'.rb=k.rb→knrow (ks.set i k')=knrow ks
 | [],i,k,k',h,_,_=>by simp at h
 | a :: ks,0,k,k',h,h1,h2=>by
  simp at h
  subst h
  simp [knrow,Kn.cells,h1,h2]
 | a :: ks,i+1,k,k',h,h1,h2=>by
  have h':=ak4 ks i k k' (by simpa using h) h1 h2
  have e:∀ l,knrow (a :: l)=.pointer (some ⟨a.fb,0,none⟩) :: .pointer (some ⟨a.rb,0,none⟩) :: knrow l:=fun l=>by simp [knrow,Kn.cells]
  rw [List.set_cons_succ,e,e,h']
structure a3t (w:World) (k:Kn) (m:Nat) (F:Nat→Prop):Prop where
 g:k.g.Ok
 p:k.p<k.g.n
 s:k.s.Ok k.g k.p
 how:∃ b F1 F2,w.cell? ⟨k.fb,0,none⟩=some (.pointer (some ⟨b,0,none⟩))∧a0m w b k.g k.p k.s F1∧RefAt w k.rb k.g k.p k.s m F2∧(∀ j,F1 j→¬ F2 j∧j≠k.fb)∧(∀ j,F2 j→j≠k.fb)∧∀ j,F j↔(j=k.fb∨F1 j∨F2 j)
 ty:∀ j,F j→j=k.fb∨∃ cur t,w.heap[j]?=some (.cells cur t (0,0))∧t≠109
section
variable {w w':World} {k:Kn} {m:Nat} {F E:Nat→Prop}
theorem a3t.lt (h:a3t w k m F) {j:Nat} (hj:F j):j<w.heap.size:=by
 rcases h.ty j hj with rfl | ⟨_,_,e,_⟩
 ·obtain ⟨_,_,_,hc,_⟩:=h.how
  exact lt_of_cell hc
 ·exact lt_of_some e
theorem a3t.alike (h:a3t w k m F) (ha:Alike w w' E) (hE:∀ j,F j→¬ E j):a3t w' k m F:=by
 obtain ⟨b,F1,F2,h1,h2,h3,h4,h5,h6⟩:=h.how
 refine ⟨h.g,h.p,h.s,⟨b,F1,F2,ha.cell h1 (hE _ ((h6 _).2 (Or.inl rfl))),h2.alike ha (fun j hj=>hE j ((h6 j).2 (Or.inr (Or.inl hj)))),h3.alike ha (fun j hj=>hE j ((h6 j).2 (Or.inr (Or.inr hj)))),h4,h5,h6⟩,fun j hj=>?_⟩
 rcases h.ty j hj with e | ⟨cur,t,e,ht⟩
 ·exact Or.inl e
 ·exact Or.inr ⟨cur,t,(ha.block j (lt_of_some e) (hE j hj)).trans e,ht⟩
theorem a3t.more {m':Nat} (h:a3t w k m F) (hm:m≤m'):a3t w k m' F:=by
 obtain ⟨b,F1,F2,h1,h2,h3,h4⟩:=h.how
 exact ⟨h.g,h.p,h.s,⟨b,F1,F2,h1,h2,h3.more hm,h4⟩,h.ty⟩
theorem ag1 {b:Nat} {F1 F2:Nat→Prop} (hg:k.g.Ok) (hp:k.p<k.g.n) (hs:k.s.Ok k.g k.p) (h1:w.cell? ⟨k.fb,0,none⟩=some (.pointer (some ⟨b,0,none⟩))) (h2:a0m w b k.g k.p k.s F1) (h3:RefAt w k.rb k.g k.p k.s m F2) (h4:∀ j,F1 j→¬ F2 j∧j≠k.fb) (h5:∀ j,F2 j→j≠k.fb):∃ F',a3t w k m F'∧∀ j,F' j→j=k.fb∨F1 j∨F2 j:=by
 obtain ⟨F0,t1,t2,_,t4⟩:=h3.tight
 refine ⟨fun j=>j=k.fb∨F1 j∨F0 j,⟨hg,hp,hs,⟨b,F1,F0,h1,h2,t2,fun j hj=>⟨fun hc=>(h4 j hj).1 (t1 j hc),(h4 j hj).2⟩,fun j hj=>h5 j (t1 j hj),fun _=>Iff.rfl⟩,fun j hj=>?_⟩,fun j hj=>?_⟩
 ·rcases hj with e | hj | hj
  ·exact Or.inl e
  ·exact Or.inr (h2.noPk hj)
  ·obtain ⟨cur,t,e,ht,_⟩:=t4 j hj
   exact Or.inr ⟨cur,t,e,ht⟩
 ·rcases hj with e | hj | hj
  ·exact Or.inl e
  ·exact Or.inr (Or.inl hj)
  ·exact Or.inr (Or.inr (t1 j hj))
end
structure Kp2 (R:Nat→Prop) (w w':World):Prop where
 blk:∀ j,R j→w'.heap[j]?=w.heap[j]?
 size:w.heap.size≤w'.heap.size
 same:w'.os=w.os∧w'.tape=w.tape∧w'.output=w.output
theorem Kp2.trans {R:Nat→Prop} {w w1 w2:World} (h:Kp2 R w w1) (h':Kp2 R w1 w2):Kp2 R w w2:=⟨fun j hj=>(h'.blk j hj).trans (h.blk j hj),Nat.le_trans h.size h'.size,h'.same.1.trans h.same.1,h'.same.2.1.trans h.same.2.1,h'.same.2.2.trans h.same.2.2⟩
theorem Kp2.of {R E:Nat→Prop} {w w':World} (ha:Alike w w' E) (h:∀ j,R j→j<w.heap.size∧¬ E j):Kp2 R w w':=⟨fun j hj=>ha.block j (h j hj).1 (h j hj).2,ha.size,ha.same⟩
theorem Kp2.below {R:Nat→Prop} {w w':World} {z:Nat} (h:Kp2 R w w') (hR:∀ j,j<z→R j):Below z w w':=⟨h.same.1,h.same.2.1,h.same.2.2,h.size,fun k hk=>h.blk k (hR k hk)⟩
def KnS (wb:Nat) (w w':World):Prop:=∀ i,i=3∨i=4→∀ ad n cap,w.cell? ⟨wb,i,none⟩=some (.slice ad n cap)→w'.cell? ⟨wb,i,none⟩=some (.slice ad n cap)∧∀ j,onB ad j→w'.heap[j]?=w.heap[j]?
structure Kp3 (R:Nat→Prop) (wb:Nat) (w w':World):Prop where
 kp:Kp2 R w w'
 kn:KnS wb w w'
theorem Kp3.trans {R:Nat→Prop} {wb:Nat} {w w1 w2:World} (h:Kp3 R wb w w1) (h':Kp3 R wb w1 w2):Kp3 R wb w w2:=⟨h.kp.trans h'.kp,fun i hi ad n cap hc=>by
 obtain ⟨a1,a2⟩:=h.kn i hi ad n cap hc
 obtain ⟨b1,b2⟩:=h'.kn i hi ad n cap a1
 exact ⟨b1,fun j hj=>(b2 j hj).trans (a2 j hj)⟩⟩
theorem Kp3.less {R R':Nat→Prop} {wb:Nat} {w w':World} (h:Kp3 R wb w w') (hR:∀ j,R' j→R j):Kp3 R' wb w w':=⟨⟨fun j hj=>h.kp.blk j (hR j hj),h.kp.size,h.kp.same⟩,h.kn⟩
theorem BkAt.knS {w w':World} {wb t u nk nn:Nat} {kr nr:List Value} {O E:Nat→Prop} (h:BkAt w wb t u kr nr nk nn O) (hc:∀ i,i=3∨i=4→∀ v,w.cell? ⟨wb,i,none⟩=some v→w'.cell? ⟨wb,i,none⟩=some v) (ha:Alike w w' E) (hE:∀ (e:TypeId),e=123∨e=128→∀ j cur,w.heap[j]?=some (.cells cur e (0,0))→O j→¬ E j):KnS wb w w':=fun i hi ad n cap he=>by
 rcases hi with rfl | rfl
 ·obtain ⟨ad0,cap0,h1,h2,h3⟩:=h.kn
  rw [h1] at he
  cases he
  refine ⟨hc 3 (Or.inl rfl) _ h1,fun j hj=>?_⟩
  obtain ⟨cur,e⟩:=a02 h2 hj
  exact ha.block j (lt_of_some e) (hE _ (Or.inl rfl) j cur e (h3 j hj))
 ·obtain ⟨ad0,cap0,h1,h2,h3⟩:=h.nt
  rw [h1] at he
  cases he
  refine ⟨hc 4 (Or.inr rfl) _ h1,fun j hj=>?_⟩
  obtain ⟨cur,e⟩:=a02 h2 hj
  exact ha.block j (lt_of_some e) (hE _ (Or.inr rfl) j cur e (h3 j hj))
theorem BkAt.webs {w w':World} {wb t u nk nn nn':Nat} {kr nr nr':List Value} {O:Nat→Prop} (h:BkAt w wb t u kr nr nk nn O) {ka:Option Addr} {kc:Nat} (hown:w.ownsRow 0 128 2 (.slice ka nn kc) nn nr) (hka:∀ k,onB ka k→O k) (hg:Grw 79 w w' wb 4 128 2 ka nn' nr') :
  BkAt w' wb t u kr nr' nk nn' (fun k=>k<w'.heap.size∧(O k∨w.heap.size≤k)):=by
 obtain ⟨⟨ad',cap',hcell,hown',hnew⟩,hrest,hoth,hty⟩:=hg
 obtain ⟨curw,htw⟩:=h.ty
 have hsize:=hrest.size
 have hOO:∀ k,O k→k<w'.heap.size∧(O k∨w.heap.size≤k):=fun k hk=>⟨Nat.lt_of_lt_of_le (h.lt k hk) hsize,Or.inl hk⟩
 have hapart:∀ (e:TypeId),e≠128→e≠79→∀ k cur,w.heap[k]?=some (.cells cur e (0,0))→O k→¬ (k=wb∨onB ka k):=fun e h1 h2 k cur hh ho hor=>by
  rcases hor with rfl | hk
  ·exact ty_ne hh htw h2 rfl
  ·obtain ⟨_,hh'⟩:=a02 hown hk
   exact ty_ne hh hh' h1 rfl
 refine ⟨hty,fun c hc=>?_,h.kn.move (fun v=>hoth 3 v (by omega)) hrest (hapart _ (by decide) (by decide)) hOO,⟨ad',cap',hcell,hown',fun k hk=>?_⟩,?_,hOO wb h.self,fun k hk=>hk.1⟩
 ·obtain ⟨ln,xs,h1,h2,h3,h4⟩:=h.sh c hc
  exact ⟨ln,xs,h1,h2,h3.move (fun v=>hoth c v (by omega)) hrest (hapart _ (a1p c hc).2.2.1 (a1p c hc).1) hOO,h4.move hrest (hapart _ (a3h c hc).2.2.1 (a3h c hc).1) hOO⟩
 ·obtain ⟨cur,e⟩:=a02 hown' hk
  refine ⟨lt_of_some e,?_⟩
  rcases hnew k hk with h1 | h1
  ·exact Or.inl (hka k h1)
  ·exact Or.inr h1
 ·obtain ⟨ts,h1,h2⟩:=h.tx
  exact ⟨ts,h1.move (fun v=>hoth 5 v (by omega)) hrest (hapart _ (by decide) (by decide)) hOO,h2⟩
structure Wb where
 fb:Nat
 nb:Nat
 g:Gr
 x:MNet
def Wb.cells (k:Wb):List Value:=[.pointer (some ⟨k.fb,0,none⟩),.pointer (some ⟨k.nb,0,none⟩)]
def wbrow (ks:List Wb):List Value:=ks.flatMap Wb.cells
theorem ah8 (a b:List Wb):wbrow (a++b)=wbrow a++wbrow b:=by simp [wbrow]
theorem a8m:∀ (ks:List Wb) (i:Nat) (k:Wb),ks[i]?=some k→(wbrow ks)[i * 2]?=some (.pointer (some ⟨k.fb,0,none⟩))∧(wbrow ks)[i * 2+1]?=some (.pointer (some ⟨k.nb,0,none⟩))
 | [],i,k,h=>by simp at h
 | a :: ks,0,k,h=>by
  simp at h
  subst h
  simp [wbrow,Wb.cells]
 | a :: ks,i+1,k,h=>by
  have h':=a8m ks i k (by simpa using h)
  have e:wbrow (a :: ks)=.pointer (some ⟨a.fb,0,none⟩) :: .pointer (some ⟨a.nb,0,none⟩) :: wbrow ks:=by simp [wbrow,Wb.cells]
  rw [e,show (i+1) * 2+1=(i * 2+1)+1+1 by omega,show (i+1) * 2=(i * 2)+1+1 by omega]
  simpa using h'
theorem ah6:∀ (ks:List Wb) (i:Nat) (k k':Wb),ks[i]?=some k→k'.fb=k.fb→k'.nb=k.nb→wbrow (ks.set i k')=wbrow ks
 | [],i,k,k',h,_,_=>by simp at h
 | a :: ks,0,k,k',h,h1,h2=>by
  simp at h
  subst h
  simp [wbrow,Wb.cells,h1,h2]
 | a :: ks,i+1,k,k',h,h1,h2=>by
  have h':=ah6 ks i k k' (by simpa using h) h1 h2
  have e:∀ l,wbrow (a :: l)=.pointer (some ⟨a.fb,0,none⟩) :: .pointer (some ⟨a.nb,0,none⟩) :: wbrow l:=fun l=>by simp [wbrow,Wb.cells]
  rw [List.set_cons_succ,e,e,h']
structure WOk (g:Gr) (x:MNet) (m:Nat):Prop where
 nd:∀ p,p<g.n→(x.nd p).Ok g p
 bag:∀ t∈x.bag,(∃ q:Nat,t.to=q∧q<g.n)∧t.text.size≤100
 ref:∀ p,p<g.n→0≤x.ref p∧x.ref p≤(m:Int)
 few:x.bag.length≤520 * m
theorem WOk.ok {g:Gr} {x:MNet} {m:Nat} (h:WOk g x m) (hm:m≤10000000):x.Ok g:=
 ⟨h.nd,h.bag,fun p hp=>⟨(h.ref p hp).1,by have:=(h.ref p hp).2;omega⟩,by have:=h.few;omega⟩
theorem WOk.more {g:Gr} {x:MNet} {m m':Nat} (h:WOk g x m) (hm:m≤m'):WOk g x m':=⟨h.nd,h.bag,fun p hp=>⟨(h.ref p hp).1,by have:=(h.ref p hp).2;omega⟩,by have:=h.few;omega⟩
structure WebAt (w:World) (k:Wb) (m:Nat) (F:Nat→Prop):Prop where
 g:k.g.Ok
 x:WOk k.g k.x m
 how:∃ F1 F2,NetAt w k.fb k.g k.x F1∧a0v w k.nb k.g k.x m F2∧(∀ j,F1 j→¬ F2 j)∧∀ j,F j↔F1 j∨F2 j
 lt:∀ j,F j→j<w.heap.size
theorem WebAt.alike {w w':World} {k:Wb} {m:Nat} {F E:Nat→Prop} (h:WebAt w k m F) (ha:Alike w w' E) (hE:∀ j,F j→¬ E j):WebAt w' k m F:=by
 obtain ⟨F1,F2,h1,h2,h3,h4⟩:=h.how
 exact ⟨h.g,h.x,⟨F1,F2,h1.alike ha (fun j hj=>hE j ((h4 j).2 (Or.inl hj))),h2.alike ha (fun j hj=>hE j ((h4 j).2 (Or.inr hj))),h3,h4⟩,fun j hj=>Nat.lt_of_lt_of_le (h.lt j hj) ha.size⟩
theorem WebAt.more {w:World} {k:Wb} {m m':Nat} {F:Nat→Prop} (h:WebAt w k m F) (hm:m≤m'):WebAt w k m' F:=by
 obtain ⟨F1,F2,h1,h2,h3,h4⟩:=h.how
 exact ⟨h.g,h.x.more hm,⟨F1,F2,h1,h2.more hm,h3,h4⟩,h.lt⟩
theorem av3 {w:World} {k:Wb} {m:Nat} {F1 F2:Nat→Prop} (hg:k.g.Ok) (hx:WOk k.g k.x m) (h1:NetAt w k.fb k.g k.x F1) (h2:a0v w k.nb k.g k.x m F2) (h3:∀ j,F1 j→¬ F2 j):∃ F',WebAt w k m F'∧∀ j,F' j→F1 j∨F2 j:=by
 obtain ⟨F0,t1,t2⟩:=h2.tight
 refine ⟨fun j=>F1 j∨F0 j,⟨hg,hx,⟨F1,F0,h1,t2,fun j hj hc=>h3 j hj (t1 j hc).1,fun _=>Iff.rfl⟩,fun j hj=>?_⟩,fun j hj=>?_⟩
 ·rcases hj with h | h
  ·exact h1.lt h
  ·exact (t1 j h).2
 ·rcases hj with h | h
  ·exact Or.inl h
  ·exact Or.inr (t1 j h).1
def Liv (ks:List Kn) (ns:List Wb):Bool × Nat→Prop
 | (false,i)=>i<ks.length
 | (true,i)=>i<ns.length
theorem a8r (ks:List Kn) (ns:List Wb) (i:Nat) (k:Kn) (ι:Bool × Nat):Liv (ks.set i k) ns ι↔Liv ks ns ι:=by
 obtain ⟨b,j⟩:=ι
 cases b<;>simp [Liv]
theorem b45 (ks:List Kn) (ns:List Wb) (i:Nat) (k:Wb) (ι:Bool × Nat):Liv ks (ns.set i k) ι↔Liv ks ns ι:=by
 obtain ⟨b,j⟩:=ι
 cases b<;>simp [Liv]
structure Thg (w:World) (m:Nat) (ks:List Kn) (ns:List Wb) (F:Bool × Nat→Nat→Prop):Prop where
 kn:∀ i k,ks[i]?=some k→a3t w k m (F (false,i))
 nt:∀ i k,ns[i]?=some k→WebAt w k m (F (true,i))
theorem Thg.alike {w w':World} {m:Nat} {ks:List Kn} {ns:List Wb} {F:Bool × Nat→Nat→Prop} {E:Nat→Prop} (h:Thg w m ks ns F) (ha:Alike w w' E) (hE:∀ ι,Liv ks ns ι→∀ j,F ι j→¬ E j):Thg w' m ks ns F:=
 ⟨fun i k hi=>(h.kn i k hi).alike ha (hE (false,i) (List.getElem?_eq_some_iff.1 hi).1),fun i k hi=>(h.nt i k hi).alike ha (hE (true,i) (List.getElem?_eq_some_iff.1 hi).1)⟩
theorem Thg.more {w:World} {m m':Nat} {ks:List Kn} {ns:List Wb} {F:Bool × Nat→Nat→Prop} (h:Thg w m ks ns F) (hm:m≤m'):Thg w m' ks ns F:=⟨fun i k hi=>(h.kn i k hi).more hm,fun i k hi=>(h.nt i k hi).more hm⟩
theorem Thg.lt {w:World} {m:Nat} {ks:List Kn} {ns:List Wb} {F:Bool × Nat→Nat→Prop} (h:Thg w m ks ns F) {ι:Bool × Nat} (hi:Liv ks ns ι) {j:Nat} (hj:F ι j):j<w.heap.size:=by
 obtain ⟨b,i⟩:=ι
 cases b
 ·exact (h.kn i _ (List.getElem?_eq_getElem (h:=hi))).lt hj
 ·exact (h.nt i _ (List.getElem?_eq_getElem (h:=hi))).lt j hj
structure LW (A:Nat→Addr) (base:Nat) (R:Nat→Prop) (w:World) (wb t u m:Nat) (ks:List Kn) (ns:List Wb) (O:Nat→Prop) (F:Bool × Nat→Nat→Prop):Prop where
 sl:Sl w A base
 bk:BkAt w wb t u (knrow ks) (wbrow ns) ks.length ns.length O
 few:ks.length≤m∧ns.length≤m
 th:Thg w m ks ns F
 off:∀ ι,Liv ks ns ι→∀ j,F ι j→¬ O j
 dis:∀ ι ι',Liv ks ns ι→Liv ks ns ι'→ι≠ι'→∀ j,F ι j→¬ F ι' j
 rb:∀ j,j<base→R j
 rl:∀ j,R j→j<w.heap.size
 ro:∀ j,O j→¬ R j
 rf:∀ ι,Liv ks ns ι→∀ j,F ι j→¬ R j
section
variable {A:Nat→Addr} {base:Nat} {R:Nat→Prop} {w w':World} {wb t u m:Nat} {ks:List Kn} {ns:List Wb} {O:Nat→Prop} {F:Bool × Nat→Nat→Prop}
theorem LW.kn (h:LW A base R w wb t u m ks ns O F) (i:Nat) (k:Kn) (hi:ks[i]?=some k):a3t w k m (F (false,i)):=h.th.kn i k hi
theorem LW.nt (h:LW A base R w wb t u m ks ns O F) (i:Nat) (k:Wb) (hi:ns[i]?=some k):WebAt w k m (F (true,i)):=h.th.nt i k hi
theorem LW.lt (h:LW A base R w wb t u m ks ns O F) {ι:Bool × Nat} (hi:Liv ks ns ι) {j:Nat} (hj:F ι j):j<w.heap.size:=h.th.lt hi hj
theorem LW.ge (h:LW A base R w wb t u m ks ns O F) {j:Nat} (hj:¬ R j):base≤j:=Nat.le_of_not_lt fun hc=>hj (h.rb j hc)
theorem LW.bf (h:LW A base R w wb t u m ks ns O F) (ι:Bool × Nat) (hi:Liv ks ns ι) (j:Nat) (hj:F ι j):base≤j:=h.ge (h.rf ι hi j hj)
theorem LW.le (h:LW A base R w wb t u m ks ns O F):base≤w.heap.size:=by
 have h1:=h.ge (h.ro wb h.bk.self)
 have h2:=h.bk.lt wb h.bk.self
 omega
theorem LW.low (h:LW A base R w wb t u m ks ns O F) (hb:Below w.heap.size w w'):LW A base R w' wb t u m ks ns O F:=⟨h.sl.low hb,h.bk.low hb,h.few,h.th.alike (Alike.of_below hb (fun _=>False)) (fun _ _ _ _ h=>h),h.off,h.dis,h.rb,fun j hj=>Nat.lt_of_lt_of_le (h.rl j hj) hb.size,h.ro,h.rf⟩
theorem LW.same (h:LW A base R w wb t u m ks ns O F) (hb:Below w.heap.size w w'):Kp3 R wb w w':=⟨Kp2.of (Alike.of_below hb (fun _=>False)) (fun j hj=>⟨h.rl j hj,fun h=>h⟩),h.bk.knS (fun i _ _ hv=>(hb.cell (p:=⟨wb,i,none⟩) (lt_of_cell hv)).trans hv) (Alike.of_below hb (fun _=>False)) (fun _ _ _ _ _ _ h=>h)⟩
theorem LW.more {t' u' m':Nat} (h:LW A base R w wb t u m ks ns O F) (ht:t≤t') (hu:u≤u') (hm:m≤m'):LW A base R w wb t' u' m' ks ns O F:=⟨h.sl,h.bk.more ht hu,⟨Nat.le_trans h.few.1 hm,Nat.le_trans h.few.2 hm⟩,h.th.more hm,h.off,h.dis,h.rb,h.rl,h.ro,h.rf⟩
theorem LW.start (hw:Sl w A base) (hc:w.heap[wb]?=some (.cells #[.slice none 0 0,.slice none 0 0,.slice none 0 0,.slice none 0 0,.slice none 0 0,.slice none 0 0] 79 (0,0))) (rb:∀ j,j<base→R j) (rl:∀ j,R j→j<w.heap.size) (hR:¬ R wb):LW A base R w wb 0 0 0 [] [] (fun j=>j=wb) (fun _ _=>False):=by
 have e:∀ i,w.cell? ⟨wb,i,none⟩=#[Value.slice none 0 0,.slice none 0 0,.slice none 0 0,.slice none 0 0,.slice none 0 0,.slice none 0 0][i]?:=fun i=>cell_of_row w wb i _ _ (0,0) hc
 have hno:∀ (O:Nat→Prop) k,onB none k→O k:=fun O k ⟨_,h⟩=>by cases h
 refine ⟨hw,⟨⟨_,hc⟩,fun c hc3=>⟨0,[],by omega,rfl,⟨none,0,?_,World.ownsRow_nil _ _ _ _,hno _⟩,fun i v hv=>by simp at hv⟩,⟨none,0,e 3,World.ownsRow_nil _ _ _ _,hno _⟩,⟨none,0,e 4,World.ownsRow_nil _ _ _ _,hno _⟩,⟨[],⟨none,0,e 5,World.ownsRow_nil _ _ _ _,hno _⟩,by simp,fun x hx=>by cases hx⟩,rfl,fun k hk=>by rw [hk];exact lt_of_some hc⟩,⟨by simp,by simp⟩,⟨fun i k hk=>by simp at hk,fun i k hk=>by simp at hk⟩,fun _ _ _ h=>h.elim,fun _ _ _ _ _ _ h=>h.elim,rb,rl,fun j hj=>by rw [hj];exact hR,fun _ _ _ h=>h.elim⟩
 have h3:c=0∨c=1∨c=2:=by omega
 rcases h3 with rfl | rfl | rfl
 ·exact e 0
 ·exact e 1
 ·exact e 2
theorem LW.wider {R':Nat→Prop} (h:LW A base R w wb t u m ks ns O F) (hb:Below w.heap.size w w') (hR:∀ j,R j→R' j) (hR':∀ j,R' j→R j∨(w.heap.size≤j∧j<w'.heap.size)):LW A base R' w' wb t u m ks ns O F:=by
 have h':=h.low hb
 refine ⟨h'.sl,h'.bk,h'.few,h'.th,h'.off,h'.dis,fun j hj=>hR j (h.rb j hj),fun j hj=>?_,fun j hj hc=>?_,fun i hi j hj hc=>?_⟩
 ·rcases hR' j hj with h1 | h1
  ·exact h'.rl j h1
  ·exact h1.2
 ·rcases hR' j hc with h1 | h1
  ·exact h.ro j hj h1
  ·have:=h.bk.lt j hj
   omega
 ·rcases hR' j hc with h1 | h1
  ·exact h.rf i hi j hj h1
  ·have:=h.lt hi hj
   omega
theorem LW.less {R':Nat→Prop} (h:LW A base R w wb t u m ks ns O F) (hR:∀ j,R' j→R j) (rb:∀ j,j<base→R' j):LW A base R' w wb t u m ks ns O F:=⟨h.sl,h.bk,h.few,h.th,h.off,h.dis,rb,fun j hj=>h.rl j (hR j hj),fun j hj hc=>h.ro j hj (hR j hc),fun i hi j hj hc=>h.rf i hi j hj (hR j hc)⟩
theorem LW.b6e (h:LW A base R w wb t u m ks ns O F) {ι0:Bool × Nat} (hι:Liv ks ns ι0) (ha:Alike w w' (F ι0)) {F':Nat→Prop} (hF:∀ j,F' j→F ι0 j∨w.heap.size≤j) {ks':List Kn} {ns':List Wb} (hlv:∀ ι,Liv ks' ns' ι↔Liv ks ns ι) (hkr:knrow ks'=knrow ks∧ks'.length=ks.length) (hnr:wbrow ns'=wbrow ns∧ns'.length=ns.length) (th:Thg w' (m+1) ks' ns' (fun ι=>if ι=ι0 then F' else F ι)):LW A base R w' wb t u (m+1) ks' ns' O (fun ι=>if ι=ι0 then F' else F ι)∧Kp3 R wb w w':=by
 have hle:=h.le
 have hFn:∀ ι j,(if ι=ι0 then F' else F ι) j→F ι j∨w.heap.size≤j:=fun ι j hj=>by
  split at hj
  ·next e=>subst e;exact hF j hj
  ·exact Or.inl hj
 have hfew:=h.few
 refine ⟨⟨h.sl.alike ha (fun j hj hc=>by have:=h.bf ι0 hι j hc;omega),?_,⟨by omega,by omega⟩,th,fun ι hi j hj hc=>?_,fun ι ι' h1 h2 hne j hj hc=>?_,h.rb,fun j hj=>Nat.lt_of_lt_of_le (h.rl j hj) ha.size,h.ro,fun ι hi j hj hc=>?_⟩,⟨Kp2.of ha (fun j hj=>⟨h.rl j hj,fun hc=>h.rf ι0 hι j hc hj⟩),h.bk.knS (fun _ _ _ hv=>ha.cell hv (fun hc=>h.off ι0 hι wb hc h.bk.self)) ha (fun _ _ j _ _ hj hc=>h.off ι0 hι j hc hj)⟩⟩
 ·rw [hkr.1,hkr.2,hnr.1,hnr.2]
  exact h.bk.alike ha (fun j hj hc=>h.off ι0 hι j hc hj)
 ·have hi':=(hlv ι).1 hi
  rcases hFn ι j hj with h1 | h1
  ·exact h.off ι hi' j h1 hc
  ·have:=h.bk.lt j hc
   omega
 ·have h1':=(hlv ι).1 h1
  have h2':=(hlv ι').1 h2
  by_cases e1:ι=ι0
  ·have e2:ι'≠ι0:=fun e=>hne (e1.trans e.symm)
   rw [if_neg e2] at hc
   rcases hFn ι j hj with h3 | h3
   ·exact h.dis ι ι' h1' h2' hne j h3 hc
   ·have:=h.lt h2' hc
    omega
  ·rw [if_neg e1] at hj
   rcases hFn ι' j hc with h3 | h3
   ·exact h.dis ι ι' h1' h2' hne j hj h3
   ·have:=h.lt h1' hj
    omega
 ·have hi':=(hlv ι).1 hi
  rcases hFn ι j hj with h1 | h1
  ·exact h.rf ι hi' j h1 hc
  ·have:=h.rl j hc
   omega
theorem LW.moved (h:LW A base R w wb t u m ks ns O F) {i:Nat} {k k':Kn} (hi:ks[i]?=some k) (hfb:k'.fb=k.fb) (hrb:k'.rb=k.rb) (ha:Alike w w' (F (false,i))) {F':Nat→Prop} (hk:a3t w' k' (m+1) F') (hF:∀ j,F' j→F (false,i) j∨w.heap.size≤j):LW A base R w' wb t u (m+1) (ks.set i k') ns O (fun ι=>if ι=(false,i) then F' else F ι)∧Kp3 R wb w w':=by
 have hil:i<ks.length:=(List.getElem?_eq_some_iff.1 hi).1
 refine h.b6e (ι0:=(false,i)) hil ha hF (a8r ks ns i k') ⟨ak4 ks i k k' hi hfb hrb,List.length_set⟩ ⟨rfl,rfl⟩ ⟨fun i' k'' hk''=>?_,fun i' k'' hk''=>?_⟩
 ·by_cases e:i'=i
  ·subst e
   rw [List.getElem?_set_self hil] at hk''
   cases hk''
   simpa using hk
  ·rw [List.getElem?_set_ne (fun h=>e h.symm)] at hk''
   have ne:((false,i'):Bool × Nat)≠(false,i):=fun h=>e (Prod.mk.inj h).2
   rw [if_neg ne]
   have hil':i'<ks.length:=(List.getElem?_eq_some_iff.1 hk'').1
   exact ((h.kn i' k'' hk'').alike ha (fun j hj hc=>h.dis (false,i') (false,i) hil' hil ne j hj hc)).more (by omega)
 ·have ne:((true,i'):Bool × Nat)≠(false,i):=fun h=>by cases (Prod.mk.inj h).1
  rw [if_neg ne]
  have hil':i'<ns.length:=(List.getElem?_eq_some_iff.1 hk'').1
  exact ((h.nt i' k'' hk'').alike ha (fun j hj hc=>h.dis (true,i') (false,i) hil' hil ne j hj hc)).more (by omega)
theorem LW.b84 (h:LW A base R w wb t u m ks ns O F) {i:Nat} {k k':Wb} (hi:ns[i]?=some k) (hfb:k'.fb=k.fb) (hrb:k'.nb=k.nb) (ha:Alike w w' (F (true,i))) {F':Nat→Prop} (hk:WebAt w' k' (m+1) F') (hF:∀ j,F' j→F (true,i) j∨w.heap.size≤j):LW A base R w' wb t u (m+1) ks (ns.set i k') O (fun ι=>if ι=(true,i) then F' else F ι)∧Kp3 R wb w w':=by
 have hil:i<ns.length:=(List.getElem?_eq_some_iff.1 hi).1
 refine h.b6e (ι0:=(true,i)) hil ha hF (b45 ks ns i k') ⟨rfl,rfl⟩ ⟨ah6 ns i k k' hi hfb hrb,List.length_set⟩ ⟨fun i' k'' hk''=>?_,fun i' k'' hk''=>?_⟩
 ·have ne:((false,i'):Bool × Nat)≠(true,i):=fun h=>by cases (Prod.mk.inj h).1
  rw [if_neg ne]
  have hil':i'<ks.length:=(List.getElem?_eq_some_iff.1 hk'').1
  exact ((h.kn i' k'' hk'').alike ha (fun j hj hc=>h.dis (false,i') (true,i) hil' hil ne j hj hc)).more (by omega)
 ·by_cases e:i'=i
  ·subst e
   rw [List.getElem?_set_self hil] at hk''
   cases hk''
   simpa using hk
  ·rw [List.getElem?_set_ne (fun h=>e h.symm)] at hk''
   have ne:((true,i'):Bool × Nat)≠(true,i):=fun h=>e (Prod.mk.inj h).2
   rw [if_neg ne]
   have hil':i'<ns.length:=(List.getElem?_eq_some_iff.1 hk'').1
   exact ((h.nt i' k'' hk'').alike ha (fun j hj hc=>h.dis (true,i') (true,i) hil' hil ne j hj hc)).more (by omega)
theorem LW.kept (h:LW A base R w wb t u m ks ns O F) {c:Nat} (hc3:c<3) {ad:Option Addr} {ln cap:Nat} {xs:List Value} {ao:Option Addr} {n cp:Nat} (hln:ln≤4 * t) (h4:ln % 4=0) (hn:n≤1000000) (hown:w.ownsRow 0 (lty c) 1 (.slice ad ln cap) ln xs) (hS:Shv w c xs O) (had:∀ k,onB ad k→O k) (hao:∀ k,onB ao k→¬ R k∧¬ O k∧∀ ι,Liv ks ns ι→¬ F ι k) (hk:KeptG c w w' wb ad ln xs ao n cp):(∃ O',LW A base R w' wb (t+1) u m ks ns O' F)∧Kp3 R wb w w':=by
 have hle:=h.le
 have hwb:=h.bk.self
 have hE:∀ ι,Liv ks ns ι→∀ j,F ι j→¬ (j=wb∨onB ao j∨onB ad j):=fun i hi j hj hc=>by
  rcases hc with rfl | hc | hc
  ·exact h.off i hi _ hj hwb
  ·exact (hao j hc).2.2 i hi hj
  ·exact h.off i hi j hj (had j hc)
 have hER:∀ j,R j→¬ (j=wb∨onB ao j∨onB ad j):=fun j hj hc=>by
  rcases hc with rfl | hc | hc
  ·exact h.ro _ hwb hj
  ·exact (hao j hc).1 hj
  ·exact h.ro j (had j hc) hj
 have hKE:∀ (e:TypeId),e=123∨e=128→∀ j cur,w.heap[j]?=some (.cells cur e (0,0))→O j→¬ (j=wb∨onB ao j∨onB ad j):=fun ty hty j cur e ho hc=>by
  rcases hc with rfl | hc | hc
  ·obtain ⟨_,e'⟩:=h.bk.ty
   exact ty_ne e e' (by rcases hty with rfl | rfl<;>decide) rfl
  ·exact (hao j hc).2.1 ho
  ·obtain ⟨_,e'⟩:=a02 hown hc
   refine ty_ne e' e ?_ rfl
   rcases hty with rfl | rfl
   ·exact (a1p c hc3).2.1
   ·exact (a1p c hc3).2.2.1
 refine ⟨⟨_,h.sl.alike hk.rest (fun j hj=>hER j (h.rb j hj)),h.bk.kept hc3 hln h4 hn hown hS had (fun k hk=>(hao k hk).2.1) hk,h.few,h.th.alike hk.rest hE,fun i hi j hj hc=>?_,h.dis,h.rb,fun j hj=>Nat.lt_of_lt_of_le (h.rl j hj) hk.rest.size,fun j hj hc=>?_,h.rf⟩,⟨Kp2.of hk.rest (fun j hj=>⟨h.rl j hj,hER j hj⟩),h.bk.knS (fun i hi v=>hk.others i v (by rcases hi with rfl | rfl<;>omega)) hk.rest hKE⟩⟩
 ·rcases hc.2 with h1 | h1 | h1
  ·exact h.off i hi j hj h1
  ·exact (hao j h1).2.2 i hi hj
  ·have:=h.lt hi hj
   omega
 ·rcases hj.2 with h1 | h1 | h1
  ·exact h.ro j h1 hc
  ·exact (hao j h1).1 hc
  ·have:=h.rl j hc
   omega
theorem LW.sent (h:LW A base R w wb t u m ks ns O F) {w1:World} {ta ad:Option Addr} {tc ln cap:Nat} {ts us:List ByteArray} {xs:List Value} {ao:Option Addr} {n cp:Nat} (htown:w.ownsRow 0 9 1 (.slice ta ts.length tc) ts.length (txrow ts)) (hta:∀ k,onB ta k→O k) (hts:ts.length≤1000 * u) (hsz:∀ x∈ts,x.size≤100) (hus:us.length≤1000) (hsu:∀ x∈us,x.size≤100) (hg:Grw 79 w w1 wb 5 9 1 ta (ts.length+us.length) (txrow (ts++us)))
  (hln:ln≤4 * t) (h4:ln % 4=0) (hn:n≤1000000) (hown:w.ownsRow 0 54 1 (.slice ad ln cap) ln xs) (hS:Shv w 2 xs O) (had:∀ k,onB ad k→O k) (hao:∀ k,onB ao k→k<w.heap.size∧¬ R k∧¬ O k∧∀ ι,Liv ks ns ι→¬ F ι k) (hk:KeptP w1 w' wb ad ln xs ao n cp):(∃ O',LW A base R w' wb (t+1) (u+1) m ks ns O' F)∧Kp3 R wb w w':=by
 have hle:=h.le
 have hwb:=h.bk.self
 have hsize:=hg.rest.size
 obtain ⟨curw,htw⟩:=h.bk.ty
 have hOO:∀ k,O k→k<w1.heap.size∧(O k∨w.heap.size≤k):=fun k hk=>⟨Nat.lt_of_lt_of_le (h.bk.lt k hk) hsize,Or.inl hk⟩
 have hapart:∀ (e:TypeId),e≠9→e≠79→∀ k cur,w.heap[k]?=some (.cells cur e (0,0))→¬ (k=wb∨onB ta k):=fun e h1 h2 k cur hh hor=>by
  rcases hor with rfl | hk
  ·exact ty_ne hh htw h2 rfl
  ·obtain ⟨_,hh'⟩:=a02 htown hk
   exact ty_ne hh hh' h1 rfl
 have hER:∀ j,R j→¬ (j=wb∨onB ta j):=fun j hj hc=>by
  rcases hc with rfl | hc
  ·exact h.ro _ hwb hj
  ·exact h.ro j (hta j hc) hj
 have h1:LW A base R w1 wb t (u+1) m ks ns (fun k=>k<w1.heap.size∧(O k∨w.heap.size≤k)) F:=by
  refine ⟨h.sl.alike hg.rest (fun j hj=>hER j (h.rb j hj)),h.bk.texts htown hta hts hsz hus hsu hg,h.few,h.th.alike hg.rest (fun i hil j hj hc=>?_),fun i hi j hj hc=>?_,h.dis,h.rb,fun j hj=>Nat.lt_of_lt_of_le (h.rl j hj) hsize,fun j hj hc=>?_,h.rf⟩
  ·rcases hc with rfl | hc
   ·exact h.off i hil _ hj hwb
   ·exact h.off i hil j hj (hta j hc)
  ·rcases hc.2 with h1 | h1
   ·exact h.off i hi j hj h1
   ·have:=h.lt hi hj
    omega
  ·rcases hj.2 with h1 | h1
   ·exact h.ro j h1 hc
   ·have:=h.rl j hc
    omega
 have h2:=h1.kept (c:=2) (by decide) hln h4 hn (a07 hown hg.rest (fun k hk=>?_)) (hS.move hg.rest (fun k cur hh _=>hapart _ (by decide) (by decide) k cur hh) hOO) (fun k hk=>hOO k (had k hk)) (fun k hk=>⟨(hao k hk).2.1,fun hc=>?_,(hao k hk).2.2.2⟩) hk.g
 ·exact ⟨h2.1,Kp3.trans ⟨Kp2.of hg.rest (fun j hj=>⟨h.rl j hj,hER j hj⟩),h.bk.knS (fun i hi v=>hg.others i v (by rcases hi with rfl | rfl<;>omega)) hg.rest (fun ty hty j cur e _=>hapart _ (by rcases hty with rfl | rfl<;>decide) (by rcases hty with rfl | rfl<;>decide) j cur e)⟩ h2.2⟩
 ·obtain ⟨cur,hh⟩:=a02 hown hk
  exact hapart _ (by decide) (by decide) k cur hh
 ·rcases hc.2 with h2 | h2
  ·exact (hao k hk).2.2.1 h2
  ·have:=(hao k hk).1
   omega
theorem LW.add0 (h:LW A base R w wb t u m ks ns O F) {w2:World} (hb:Below w.heap.size w w2) {ι0:Bool × Nat} {F':Nat→Prop} (hF:∀ j,F' j→w.heap.size≤j∧j<w2.heap.size) {ks':List Kn} {ns':List Wb} (hlv:∀ ι,Liv ks' ns' ι→ι=ι0∨Liv ks ns ι) (hfew:ks'.length≤m+1∧ns'.length≤m+1) {E:Nat→Prop} (hr:Alike w2 w' E) (hE:∀ j,E j→O j) {O':Nat→Prop} (hbk:BkAt w' wb t u (knrow ks') (wbrow ns') ks'.length ns'.length O') (hO':∀ j,O' j→O j∨w2.heap.size≤j) (th:Thg w2 (m+1) ks' ns' (fun ι=>if ι=ι0 then F' else F ι)) (_hnl:¬ Liv ks ns ι0) :
  LW A base R w' wb t u (m+1) ks' ns' O' (fun ι=>if ι=ι0 then F' else F ι)∧Kp2 R w w':=by
 have h2:=h.low hb
 have hs1:=hb.size
 have hEf:∀ j,O j→¬ F' j:=fun j hj hc=>by
  have h3:=(hF j hc).1
  have h4:=h.bk.lt j hj
  omega
 have hER:∀ j,R j→¬ E j:=fun j hj hc=>h.ro j (hE j hc) hj
 have hFO:∀ ι,Liv ks' ns' ι→∀ j,(if ι=ι0 then F' else F ι) j→¬ O j∧j<w2.heap.size:=fun ι hi j hj=>by
  split at hj
  ·exact ⟨fun hc=>hEf j hc hj,(hF j hj).2⟩
  ·next e =>
   have hi':=(hlv ι hi).resolve_left e
   exact ⟨h.off ι hi' j hj,h2.lt hi' hj⟩
 refine ⟨⟨h2.sl.alike hr (fun j hj=>hER j (h.rb j hj)),hbk,hfew,th.alike hr (fun ι hi j hj hc=>(hFO ι hi j hj).1 (hE j hc)),fun ι hi j hj hc=>?_,fun ι ι' h1 h1' hne j hj hc=>?_,h.rb,fun j hj=>Nat.lt_of_lt_of_le (h2.rl j hj) hr.size,fun j hj hc=>?_,fun ι hi j hj hc=>?_⟩,(h.same hb).kp.trans (Kp2.of hr (fun j hj=>⟨h2.rl j hj,hER j hj⟩))⟩
 ·rcases hO' j hc with h3 | h3
  ·exact (hFO ι hi j hj).1 h3
  ·have:=(hFO ι hi j hj).2
   omega
 ·by_cases e1:ι=ι0
  ·have e2:ι'≠ι0:=fun e=>hne (e1.trans e.symm)
   rw [if_pos e1] at hj
   rw [if_neg e2] at hc
   have h3:=h.lt ((hlv ι' h1').resolve_left e2) hc
   have h4:=(hF j hj).1
   omega
  ·rw [if_neg e1] at hj
   by_cases e2:ι'=ι0
   ·rw [if_pos e2] at hc
    have h3:=h.lt ((hlv ι h1).resolve_left e1) hj
    have h4:=(hF j hc).1
    omega
   ·rw [if_neg e2] at hc
    exact h.dis ι ι' ((hlv ι h1).resolve_left e1) ((hlv ι' h1').resolve_left e2) hne j hj hc
 ·rcases hO' j hj with h3 | h3
  ·exact h.ro j h3 hc
  ·have:=h2.rl j hc
   omega
 ·split at hj
  ·have:=(hF j hj).1
   have:=h.rl j hc
   omega
  ·next e=>exact h.rf ι ((hlv ι hi).resolve_left e) j hj hc
theorem LW.add (h:LW A base R w wb t u m ks ns O F) {w2:World} (hb:Below w.heap.size w w2) {k:Kn} {F':Nat→Prop} (hk:a3t w2 k (m+1) F') (hF:∀ j,F' j→w.heap.size≤j) {ka:Option Addr} {kc:Nat} (hown:w2.ownsRow 0 123 2 (.slice ka ks.length kc) ks.length (knrow ks)) (hka:∀ j,onB ka j→O j) (hg:Grw 79 w2 w' wb 3 123 2 ka (ks.length+1) (knrow (ks++[k]))) :
  (∃ O' F'',LW A base R w' wb t u (m+1) (ks++[k]) ns O' F'')∧Kp2 R w w':=by
 have h2:=h.low hb
 have hlen:(ks++[k]).length=ks.length+1:=by simp
 have hbk:=h2.bk.knots hown hka hg
 rw [←hlen] at hbk
 have hfew:=h.few
 obtain ⟨h3,h4⟩:=h.add0 hb (ι0:=(false,ks.length)) (ks':=ks++[k]) (ns':=ns) (fun j hj=>⟨hF j hj,hk.lt hj⟩) (fun ι hi=>by
   obtain ⟨b,i⟩:=ι
   cases b
   ·have hi':i<(ks++[k]).length:=hi
    rw [hlen] at hi'
    by_cases e:i=ks.length
    ·exact Or.inl (by rw [e])
    ·exact Or.inr (show i<ks.length by omega)
   ·exact Or.inr hi) ⟨by omega,by omega⟩ hg.rest (fun j hj=>by
   rcases hj with rfl | hj
   ·exact h.bk.self
   ·exact hka j hj) hbk (fun j hj=>hj.2.imp id (fun h=>h.2)) ⟨fun i k' hi=>by
   by_cases e:i=ks.length
   ·subst e
    have hkk:k=k':=by simpa using hi
    subst hkk
    simpa using hk
   ·have ne:((false,i):Bool × Nat)≠(false,ks.length):=fun h=>e (Prod.mk.inj h).2
    rw [if_neg ne]
    have hil:i<ks.length:=by
     have:=(List.getElem?_eq_some_iff.1 hi).1
     omega
    rw [List.getElem?_append_left hil] at hi
    exact (h2.kn i k' hi).more (by omega),fun i k' hi=>by
   have ne:((true,i):Bool × Nat)≠(false,ks.length):=fun h=>by cases (Prod.mk.inj h).1
   rw [if_neg ne]
   exact (h2.nt i k' hi).more (by omega)⟩ (fun hc=>Nat.lt_irrefl _ (show ks.length<ks.length from hc))
 exact ⟨⟨_,_,h3⟩,h4⟩
theorem LW.addN (h:LW A base R w wb t u m ks ns O F) {w2:World} (hb:Below w.heap.size w w2) {k:Wb} {F':Nat→Prop} (hk:WebAt w2 k (m+1) F') (hF:∀ j,F' j→w.heap.size≤j) {ka:Option Addr} {kc:Nat} (hown:w2.ownsRow 0 128 2 (.slice ka ns.length kc) ns.length (wbrow ns)) (hka:∀ j,onB ka j→O j) (hg:Grw 79 w2 w' wb 4 128 2 ka (ns.length+1) (wbrow (ns++[k]))) :
  (∃ O' F'',LW A base R w' wb t u (m+1) ks (ns++[k]) O' F'')∧Kp2 R w w':=by
 have h2:=h.low hb
 have hlen:(ns++[k]).length=ns.length+1:=by simp
 have hbk:=h2.bk.webs hown hka hg
 rw [←hlen] at hbk
 have hfew:=h.few
 obtain ⟨h3,h4⟩:=h.add0 hb (ι0:=(true,ns.length)) (ks':=ks) (ns':=ns++[k]) (fun j hj=>⟨hF j hj,hk.lt j hj⟩) (fun ι hi=>by
   obtain ⟨b,i⟩:=ι
   cases b
   ·exact Or.inr hi
   ·have hi':i<(ns++[k]).length:=hi
    rw [hlen] at hi'
    by_cases e:i=ns.length
    ·exact Or.inl (by rw [e])
    ·exact Or.inr (show i<ns.length by omega)) ⟨by omega,by omega⟩ hg.rest (fun j hj=>by
   rcases hj with rfl | hj
   ·exact h.bk.self
   ·exact hka j hj) hbk (fun j hj=>hj.2) ⟨fun i k' hi=>by
   have ne:((false,i):Bool × Nat)≠(true,ns.length):=fun h=>by cases (Prod.mk.inj h).1
   rw [if_neg ne]
   exact (h2.kn i k' hi).more (by omega),fun i k' hi=>by
   by_cases e:i=ns.length
   ·subst e
    have hkk:k=k':=by simpa using hi
    subst hkk
    simpa using hk
   ·have ne:((true,i):Bool × Nat)≠(true,ns.length):=fun h=>e (Prod.mk.inj h).2
    rw [if_neg ne]
    have hil:i<ns.length:=by
     have:=(List.getElem?_eq_some_iff.1 hi).1
     omega
    rw [List.getElem?_append_left hil] at hi
    exact (h2.nt i k' hi).more (by omega)⟩ (fun hc=>Nat.lt_irrefl _ (show ns.length<ns.length from hc))
 exact ⟨⟨_,_,h3⟩,h4⟩
end
theorem b6c {g:Gr} (hg:g.Ok) {p:Nat} (hp:p<g.n) {s:NS} (hs:s.Ok g p) (body:ByteArray):∀ t∈(s.say g p body).ps,PkOk g t:=by
 unfold NS.say
 split
 ·rename_i hK
  obtain ⟨h1,h2,h3⟩:=a8c hK
  rw [b61 g p _ rfl]
  exact b1r hg hp (NS.as3 hs hg hp h1 h2 h3) p
 ·intro t ht
  cases ht
theorem b22 {w:World} {z:Nat} {e:TypeId} {sz:Nat} {ad:Option Addr} {n cap:Nat} {xs:List Value} (h:w.ownsRow z e sz (.slice ad n cap) n xs) {j:Nat} (hj:onB ad j):z≤j:=by
 rcases h.2 with ⟨e',_⟩ | ⟨g',cap',cur',e',hg',_⟩
 ·cases e'
  obtain ⟨_,e''⟩:=hj
  cases e''
 ·cases e'
  obtain ⟨_,e''⟩:=hj
  cases e''
  exact hg'
section
variable {A:Nat→Addr} {base:Nat} {R:Nat→Prop} {w w':World} {wb t u m:Nat} {ks:List Kn} {ns:List Wb} {O:Nat→Prop} {F:Bool × Nat→Nat→Prop}
theorem LW.both (h:LW A base R w wb t u m ks ns O F) {i:Nat} {k:Kn} (hi:ks[i]?=some k) {b:Nat} {F1 F2:Nat→Prop} (h1:w.cell? ⟨k.fb,0,none⟩=some (.pointer (some ⟨b,0,none⟩))) (h2:a0m w b k.g k.p k.s F1) (h4:∀ j,F1 j→¬ F2 j∧j≠k.fb) (h5:∀ j,F2 j→j≠k.fb) (h6:∀ j,F (false,i) j↔(j=k.fb∨F1 j∨F2 j))
  {w1 w2:World} {s':NS} {v v2:Value} {ps:List Pk} (hs':s'.Ok k.g k.p) (hd:Did w w1 b k.g k.p F1 s' v ps) (hr:RDid w1 w2 k.rb k.g k.p F2 s' (m+1) v2 ps) :
  Kp3 R wb w w2∧(∃ F',LW A base R w2 wb t u (m+1) (ks.set i { k with s:=s' }) ns O F'∧∀ j,w.heap.size≤j→(∃ cur,w2.heap[j]?=some (.cells cur 109 (0,0)))→∀ ι,Liv ks ns ι→¬ F' ι j)∧Pks w2 w.heap.size v ps∧Pks w2 w1.heap.size v2 ps:=by
 have hk:=h.kn i k hi
 have hil:i<ks.length:=(List.getElem?_eq_some_iff.1 hi).1
 have hs1:=hd.rest.size
 have hs2:=hr.rest.size
 have hfbl:k.fb<w.heap.size:=lt_of_cell h1
 have hF1l:∀ j,F1 j→j<w.heap.size:=fun j hj=>h2.lt hj
 have hF2l:∀ j,F2 j→j<w.heap.size:=fun j hj=>hk.lt ((h6 j).2 (Or.inr (Or.inr hj)))
 obtain ⟨F1',n1,n2⟩:=hd.node
 obtain ⟨F2',r1,r2⟩:=hr.node
 have hF12:∀ j,F1' j→¬ F2 j:=fun j hj hc=>by
  rcases n2 j hj with h7 | h7
  ·exact (h4 j h7).1 hc
  ·have:=hF2l j hc
   omega
 have n3:=n1.alike hr.rest hF12
 have hcell:w2.cell? ⟨k.fb,0,none⟩=some (.pointer (some ⟨b,0,none⟩)):=hr.rest.cell (hd.rest.cell h1 (fun hc=>(h4 _ hc).2 rfl)) (fun hc=>h5 _ hc rfl)
 obtain ⟨F',k1,k2⟩:=ag1 (w:=w2) (k:={ k with s:=s' }) (m:=m+1) hk.g hk.p hs' hcell n3 r1 (fun j hj=>⟨fun hc=>by
   have h8:=n1.lt hj
   rcases r2 j hc with h7 | h7
   ·exact hF12 j hj h7
   ·omega,fun e=>by
   rcases n2 j hj with h7 | h7
   ·exact (h4 j h7).2 e
   ·have e':j=k.fb:=e
    omega⟩) (fun j hj e=>by
   have e':j=k.fb:=e
   rcases r2 j hj with h7 | h7
   ·exact h5 j h7 e
   ·omega)
 have hF'n:∀ j,F' j→F (false,i) j∨w.heap.size≤j:=fun j hj=>by
  rcases k2 j hj with e | h7 | h7
  ·exact Or.inl ((h6 j).2 (Or.inl e))
  ·rcases n2 j h7 with h8 | h8
   ·exact Or.inl ((h6 j).2 (Or.inr (Or.inl h8)))
   ·exact Or.inr h8
  ·rcases r2 j h7 with h8 | h8
   ·exact Or.inl ((h6 j).2 (Or.inr (Or.inr h8)))
   ·exact Or.inr (by omega)
 have hal:Alike w w2 (F (false,i)):=((Alike.refl w _).trans hd.rest (fun j _ hj=>(h6 j).2 (Or.inr (Or.inl hj)))).trans hr.rest (fun j _ hj=>(h6 j).2 (Or.inr (Or.inr hj)))
 obtain ⟨l1,l2⟩:=h.moved (k':={ k with s:=s' }) hi rfl rfl hal k1 hF'n
 refine ⟨l2,⟨_,l1,fun j hj ⟨cur,e⟩ i' hi' hc=>?_⟩,hd.pks.alike hr.rest (fun j hj _ hc=>?_),hr.pks⟩
 ·split at hc
  ·rcases k1.ty j hc with e' | ⟨cur',t',e',ht⟩
   ·have e'':j=k.fb:=e'
    omega
   ·rw [e] at e'
    cases e'
    exact ht rfl
  ·have:=h.lt hi' hc
   omega
 ·have:=hF2l j hc
  omega
theorem LW.sends (h:LW A base R w wb t u m ks ns O F) (ht:t≤240000) (hu:u≤240000) {z bk:Nat} {v v2:Value} {ps:List Pk} (hps:ps.length≤1000) (hpk:∀ x∈ps,x.text.size≤100) (hl:Pks w z v ps) (hk:Pks w bk v2 ps) (hz:(∀ j,R j→j<z)∧∀ j,O j→j<z) (hF:∀ j,z≤j→(∃ cur,w.heap[j]?=some (.cells cur 109 (0,0)))→∀ ι,Liv ks ns ι→¬ F ι j) :
  Calls Tryz.prog 109 #[.pointer (some ⟨wb,0,none⟩),v,v2] w fun e w'=>e=.returned (.bool true)∧(∃ O',LW A base R w' wb (t+1) (u+1) m ks ns O' F)∧Kp3 R wb w w':=by
 obtain ⟨ts,⟨ta,tc,c5,hto,hta⟩,htl,hts⟩:=h.bk.tx
 obtain ⟨ln,xs,hln,h4,⟨ad,cap,c2,hxo,had⟩,hS⟩:=h.bk.sh 2 (by decide)
 obtain ⟨ao,cp,rfl⟩:=a01 hl.own
 obtain ⟨ak,ck,rfl⟩:=a01 hk.own
 refine (b5o wb ta tc ts ad ln cap xs z bk ao ak cp ck ps (by omega) (by omega) (by omega) w h.bk.ty c5 hto c2 hxo hl hk).mono ?_
 rintro e w' ⟨rfl,w1,hg,hkp⟩
 refine ⟨rfl,h.sent (us:=ps.map Pk.text) hto hta htl hts (by simpa using hps) (fun x hx=>?_) (by simpa using hg) hln h4 (by omega) hxo hS had (fun j hj=>?_) hkp⟩
 ·obtain ⟨y,hy,rfl⟩:=List.mem_map.1 hx
  exact hpk y hy
 ·obtain ⟨cur,e⟩:=a02 hl.own hj
  have hzj:z≤j:=b22 hl.own hj
  exact ⟨lt_of_some e,fun hc=>by have:=hz.1 j hc;omega,fun hc=>by have:=hz.2 j hc;omega,hF j hzj ⟨cur,e⟩⟩
theorem LW.b8g (h:LW A base R w wb t u m ks ns O F) (ht:t≤240000) {z:Nat} {v:Value} {ws:List Wd} (hws:ws.length≤1000000) (hl:Wrd w z v ws) (hz:(∀ j,R j→j<z)∧(∀ j,O j→j<z)∧∀ ι,Liv ks ns ι→∀ j,F ι j→j<z) :
  Calls Tryz.prog 114 #[.pointer (some ⟨wb,0,none⟩),v] w fun e w'=>e=.returned (.tuple #[])∧(∃ O',LW A base R w' wb (t+1) u m ks ns O' F)∧Kp3 R wb w w':=by
 obtain ⟨ln,xs,hln,h4,⟨ad,cap,c2,hxo,had⟩,hS⟩:=h.bk.sh 1 (by decide)
 obtain ⟨ao,cp,rfl⟩:=a01 hl.own
 have hM:=ar6 (mc:=mword ln) hl.own
 refine (ae0 wb ad ln cap xs ao ws.length cp (by omega) hws hM.1 w c2 h.bk.ty hxo hM.2).mono ?_
 rintro e w' ⟨rfl,hk⟩
 refine ⟨rfl,h.kept (c:=1) (by decide) hln h4 hws hxo hS had (fun j hj=>?_) hk.g⟩
 have h1:=b22 hl.own hj
 exact ⟨fun hc=>by have:=hz.1 j hc;omega,fun hc=>by have:=hz.2.1 j hc;omega,fun i' hi' hc=>by have:=hz.2.2 i' hi' j hc;omega⟩
theorem LW.b67 (h:LW A base R w wb t u m ks ns O F) (ht:t≤240000) {z n:Nat} {v:Value} {vs:List Value} (hws:n≤1000000) (hl:w.ownsRow z 3 1 v n vs) (hz:(∀ j,R j→j<z)∧(∀ j,O j→j<z)∧∀ ι,Liv ks ns ι→∀ j,F ι j→j<z) :
  Calls Tryz.prog 118 #[.pointer (some ⟨wb,0,none⟩),v] w fun e w'=>e=.returned (.tuple #[])∧(∃ O',LW A base R w' wb (t+1) u m ks ns O' F)∧Kp3 R wb w w':=by
 obtain ⟨ln,xs,hln,h4,⟨ad,cap,c2,hxo,had⟩,hS⟩:=h.bk.sh 0 (by decide)
 obtain ⟨ao,cp,rfl⟩:=a01 hl
 have hM:=ar6 (mc:=mint ln) hl
 refine (ae4 wb ad ln cap xs ao n cp (by omega) hws hM.1 w c2 h.bk.ty hxo hM.2).mono ?_
 rintro e w' ⟨rfl,hk⟩
 refine ⟨rfl,h.kept (c:=0) (by decide) hln h4 hws hxo hS had (fun j hj=>?_) hk.g⟩
 have h1:=b22 hl hj
 exact ⟨fun hc=>by have:=hz.1 j hc;omega,fun hc=>by have:=hz.2.1 j hc;omega,fun i' hi' hc=>by have:=hz.2.2 i' hi' j hc;omega⟩
end
theorem a6c (ad ad':Option Addr) (n cap cap':Nat) (vs:List Int) (w:World) (ha:Ints w ad n vs) (hb:Ints w ad' n vs) (hn:n≤1000) :
  Calls Tryz.prog 117 #[.slice ad n cap,.slice ad' n cap'] w fun e w'=>e=.returned (.bool true)∧Below w.heap.size w w':=by
 have HA:Hid (Ints w ad n vs):=ha
 have HB:Hid (Ints w ad' n vs):=hb
 clear ha hb
 go_enter Tryz.func117,Tryz.ntmps117
 go_wp2_with fail
 go_loopw [5] (fun c wr=>∃ k:Nat,k≤n∧c=.int .i64 k∧Below w.heap.size w wr) (fun c _=>n-(intOf c).toNat)
 case atStart=>exact ⟨0,Nat.zero_le _,rfl,Below.refl _ _⟩
 case round =>
  obtain ⟨k,hkn,rfl,hbel⟩:=hrel
  have HBel:Hid (Below w.heap.size w wr):=hbel
  by_cases hlt:k<n
  ·obtain ⟨b,off,he,_,hc⟩:=(HA.out.below hbel).cell k hlt
   obtain ⟨b',off',he',_,hc'⟩:=(HB.out.below hbel).cell k hlt
   subst he he'
   clear hbel
   generalize vs.getD k 0=y at *
   have hne:((y:Int) != y)=false:=by simp
   have hlti:(k:Int)<(n:Int):=by omega
   go_wp2_with fail
   go_quiet (fail)
   go_wp2_with fail
   go_roundw
   case rel=>exact ⟨k+1,by omega,by go_num,below_drewN HBel.out _⟩
   case measure=>simp [intOf];omega
  ·have:k=n:=by omega
   subst this
   clear hbel
   go_wp2_with fail
   go_ret
   exact ⟨rfl,HBel.out⟩
theorem a5p (c n:Int) (w:World) (hc:I64 c) (hn:0<n) (hn2:n≤9223372036854775807) :
  Calls Tryz.prog 69 #[.int .i64 c,.int .i64 n] w fun e w'=>e=.returned (.int .i64 (pk c n))∧w'=w:=by
 obtain ⟨h1,h2⟩:=hc
 by_cases h0:c<0
 ·have e1:pk c n = -(Int.tmod (c+1) n):=by unfold pk;rw [if_pos h0,←Int.neg_tmod,Int.tmod_eq_emod_of_nonneg (by omega)]
  have hb:=pk_bd c n hn
  rw [e1] at hb ⊢
  go_enter Tryz.func69,Tryz.ntmps69
  go_wp2_with fail
  go_ret
  exact ⟨rfl,rfl⟩
 ·have e1:pk c n=c % n:=by unfold pk;rw [if_neg h0]
  have hb:=pk_bd c n hn
  rw [e1] at hb ⊢
  go_enter Tryz.func69,Tryz.ntmps69
  go_wp2_with fail
  go_ret
  exact ⟨rfl,rfl⟩
theorem av8 {w:World} {base n cap:Nat} {a:Option Addr} {vs:List Int} (h:w.ownsRow base 3 1 (.slice a n cap) n (irow vs)):Ints w a n vs:=by
 have hl:vs.length=n:=by have:=h.1;simp [irow] at this;exact this
 rcases h.2 with ⟨e,_⟩ | ⟨g,cap',cur,e,_⟩
 ·cases e
  exact ⟨hl,fun i hi=>absurd hi (Nat.not_lt_zero _)⟩
 ·cases e
  exact a3b h
theorem b5h {g:Gr} (hg:g.Ok) {p:Nat} {s:NS} (hs:s.Ok g p) (q:Int):(s.view g q).length≤8∧((s.view g q).length=0∨viewK g.n q=0):=by
 have hn:=hg.n
 unfold NS.view viewK a08
 by_cases h:0≤q∧q<g.n
 ·have e:decide (0≤q∧q<(g.n:Int))=true:=by simpa using h
  rw [e]
  have hl:=hs.clk.shp.elen q.toNat (by omega)
  simp only [if_true]
  exact ⟨by omega,Or.inr trivial⟩
 ·have e:decide (0≤q∧q<(g.n:Int))=false:=by simpa using h
  rw [e]
  exact ⟨by simp,Or.inl (by simp)⟩
def KW (A:Nat→Addr) (base:Nat) (R:Nat→Prop) (wb t u m:Nat) (ks:List Kn) (ns:List Wb) (w w':World):Prop:=(∃ ks' ns' O' F',LW A base R w' wb (t+1) (u+1) (m+1) ks' ns' O' F'∧ks'.length=ks.length∧ns'.length=ns.length)∧Kp3 R wb w w'
theorem KW.of {A:Nat→Addr} {base:Nat} {R:Nat→Prop} {wb t u m:Nat} {ks:List Kn} {ns:List Wb} {w0 w w':World} (h:KW A base R wb t u m ks ns w w') (hs:Kp3 R wb w0 w):KW A base R wb t u m ks ns w0 w':=⟨h.1,hs.trans h.2⟩
theorem KW.less {A:Nat→Addr} {base:Nat} {R R':Nat→Prop} {wb t u m:Nat} {ks:List Kn} {ns:List Wb} {w w':World} (h:KW A base R wb t u m ks ns w w') (hR:∀ j,R' j→R j) (rb:∀ j,j<base→R' j):KW A base R' wb t u m ks ns w w':=by
 obtain ⟨⟨ks',ns',O',F',h1,h2⟩,h3⟩:=h
 exact ⟨⟨ks',ns',O',F',h1.less hR rb,h2⟩,h3.less hR⟩
section
variable {A:Nat→Addr} {base:Nat} {R:Nat→Prop} {w X:World} {wb t u m:Nat} {ks:List Kn} {ns:List Wb} {O:Nat→Prop} {F:Bool × Nat→Nat→Prop} {i:Nat} {k:Kn}
theorem LW.b5u (h:LW A base R w wb t u m ks ns O F) (hi:ks[i]?=some k) (ht:t≤240000) (hu:u≤240000) (hm:m≤100000000) (hbX:Below w.heap.size w X) (x:ByteArray) (hx:x.size≤maxLen) :
  ∃ (D:World→Value→Prop) (n kk:Nat),(n=0∨(kk=0∧((n:Int) == 0)=false))∧n≤1000 ∧
   (Calls Tryz.prog 59 #[.pointer (some ⟨k.fb,0,none⟩),.string x] X fun e w1=>∃ a c,e=.returned (.tuple #[.slice a n c,.int .i64 (kk:Int)])∧D w1 (.slice a n c)) ∧
   (∀ w1 v,D w1 v→∀ j o val,w.heap.size≤j→X.cell? ⟨j,o,none⟩=some val→w1.cell? ⟨j,o,none⟩=some val) ∧
   (∀ w1 v,D w1 v→Calls Tryz.prog 171 #[.pointer (some ⟨k.rb,0,none⟩),.string x] w1 fun e w2=>∃ a c,e=.returned (.tuple #[.slice a n c,.int .i64 (kk:Int)]) ∧
    Calls Tryz.prog 109 #[.pointer (some ⟨wb,0,none⟩),v,.slice a n c] w2 fun e w'=>e=.returned (.bool true)∧KW A base R wb t u m ks ns w w'):=by
 have hil:i<ks.length:=(List.getElem?_eq_some_iff.1 hi).1
 have hL:=h.low hbX
 have hk:=hL.kn i k hi
 obtain ⟨b,F1,F2,h1,h2,h3,h4,h5,h6⟩:=hk.how
 have hR:=b0z hk.g hk.p hk.s x
 have hn:=hk.g.n
 have hfew:=hR.few
 refine ⟨fun w1 v=>Did X w1 b k.g k.p F1 (k.s.hear k.g k.p x).s v (k.s.hear k.g k.p x).ps,(k.s.hear k.g k.p x).ps.length,(k.s.hear k.g k.p x).k,?_,by omega,?_,?_,?_⟩
 ·by_cases e:(k.s.hear k.g k.p x).ps.length=0
  ·exact Or.inl e
  ·refine Or.inr ⟨?_,by simp;exact fun hc=>e (by rw [hc];rfl)⟩
   by_cases e':(k.s.hear k.g k.p x).k=0
   ·exact e'
   ·exact absurd (by rw [(hR.not e').2];rfl) e
 ·refine (b5i A base k.fb b k.g k.p k.s F1 x hk.g hk.p hk.s hx X h1 hL.sl (fun j hj=>hL.bf (false,i) hil j ((h6 j).2 (Or.inr (Or.inl hj)))) h2).mono ?_
  rintro e w1 ⟨v,rfl,hd⟩
  obtain ⟨a,c,rfl⟩:=a01 hd.pks.own
  exact ⟨a,c,rfl,hd⟩
 ·intro w1 v hd j o val hj hc
  exact hd.rest.cell hc (fun hF=>by have:=h.lt (ι:=(false,i)) hil ((h6 j).2 (Or.inr (Or.inl hF)));omega)
 ·intro w1 v hd
  have hr0:RefAt w1 k.rb k.g k.p k.s m F2:=h3.alike hd.rest (fun j hj hc=>(h4 j hc).1 hj)
  refine (ag6 k.rb k.g k.p k.s m F2 x hk.g hk.p hx hm w1 hr0).mono ?_
  rintro e w2 ⟨v2,rfl,hr⟩
  obtain ⟨a,c,rfl⟩:=a01 hr.pks.own
  refine ⟨a,c,rfl,?_⟩
  obtain ⟨sm,⟨F',l1,l2⟩,p1,p2⟩:=hL.both hi h1 h2 h4 h5 h6 hR.ok hd hr
  refine (l1.sends ht hu (by omega) (fun y hy=>(hR.ps y hy).2.1) p1 p2 ⟨fun j hj=>hL.rl j hj,fun j hj=>hL.bk.lt j hj⟩ (fun j h1 h2 i' hi'=>l2 j h1 h2 i' ((a8r ks ns i _ i').1 hi'))).mono ?_
  rintro e w' ⟨rfl,⟨O',hw'⟩,sm'⟩
  exact ⟨rfl,⟨_,_,O',F',hw',by simp,rfl⟩,(h.same hbX).trans (sm.trans sm')⟩
theorem LW.b6n (h:LW A base R w wb t u m ks ns O F) (hi:ks[i]?=some k) (ht:t≤240000) (hu:u≤240000) (hm:m≤100000000) (hbX:Below w.heap.size w X) (x:ByteArray) :
  ∃ (D:World→Value→Prop) (n kk:Nat) (q:Int),(n=0∨(kk=0∧((n:Int) == 0)=false))∧n≤1000 ∧
   (Calls Tryz.prog 54 #[.pointer (some ⟨k.fb,0,none⟩),.string x] X fun e w1=>∃ a c,e=.returned (.tuple #[.int .i64 q,.slice a n c,.int .i64 (kk:Int)])∧D w1 (.slice a n c)) ∧
   (∀ w1 v,D w1 v→∀ j o val,w.heap.size≤j→X.cell? ⟨j,o,none⟩=some val→w1.cell? ⟨j,o,none⟩=some val) ∧
   (∀ w1 v,D w1 v→Calls Tryz.prog 108 #[.pointer (some ⟨k.rb,0,none⟩),.string x] w1 fun e w2=>∃ a c,e=.returned (.tuple #[.int .i64 q,.slice a n c,.int .i64 (kk:Int)]) ∧
    Calls Tryz.prog 109 #[.pointer (some ⟨wb,0,none⟩),v,.slice a n c] w2 fun e w'=>e=.returned (.bool true)∧KW A base R wb t u m ks ns w w'):=by
 have hil:i<ks.length:=(List.getElem?_eq_some_iff.1 hi).1
 have hL:=h.low hbX
 have hk:=hL.kn i k hi
 obtain ⟨b,F1,F2,h1,h2,h3,h4,h5,h6⟩:=hk.how
 have hR:=hk.s.say hk.g hk.p x
 have hP:=b6c hk.g hk.p hk.s x
 have hn:=hk.g.n
 have hfew:=ad9 k.g k.p k.s x
 have hnot:(k.s.say k.g k.p x).k≠0→(k.s.say k.g k.p x).ps=[]:=by
  unfold NS.say
  split
  ·intro hc
   exact absurd rfl hc
  ·intro _
   rfl
 refine ⟨fun w1 v=>Did X w1 b k.g k.p F1 (k.s.say k.g k.p x).s v (k.s.say k.g k.p x).ps,(k.s.say k.g k.p x).ps.length,(k.s.say k.g k.p x).k,(k.s.say k.g k.p x).q,?_,by omega,?_,?_,?_⟩
 ·by_cases e:(k.s.say k.g k.p x).ps.length=0
  ·exact Or.inl e
  ·refine Or.inr ⟨?_,by simp;exact fun hc=>e (by rw [hc];rfl)⟩
   by_cases e':(k.s.say k.g k.p x).k=0
   ·exact e'
   ·exact absurd (by rw [hnot e'];rfl) e
 ·refine (b6j A base k.fb b k.g k.p k.s F1 x hk.g hk.p hk.s X h1 hL.sl (fun j hj=>hL.bf (false,i) hil j ((h6 j).2 (Or.inr (Or.inl hj)))) h2).mono ?_
  rintro e w1 ⟨v,rfl,hd⟩
  obtain ⟨a,c,rfl⟩:=a01 hd.pks.own
  exact ⟨a,c,rfl,hd⟩
 ·intro w1 v hd j o val hj hc
  exact hd.rest.cell hc (fun hF=>by have:=h.lt (ι:=(false,i)) hil ((h6 j).2 (Or.inr (Or.inl hF)));omega)
 ·intro w1 v hd
  have hr0:RefAt w1 k.rb k.g k.p k.s m F2:=h3.alike hd.rest (fun j hj hc=>(h4 j hc).1 hj)
  refine (av0 k.rb k.g k.p k.s m F2 x hk.g hk.p hm w1 hr0).mono ?_
  rintro e w2 ⟨v2,rfl,hr⟩
  obtain ⟨a,c,rfl⟩:=a01 hr.pks.own
  refine ⟨a,c,rfl,?_⟩
  obtain ⟨sm,⟨F',l1,l2⟩,p1,p2⟩:=hL.both hi h1 h2 h4 h5 h6 hR hd hr
  refine (l1.sends ht hu (by omega) (fun y hy=>(hP y hy).2.1) p1 p2 ⟨fun j hj=>hL.rl j hj,fun j hj=>hL.bk.lt j hj⟩ (fun j h1 h2 i' hi'=>l2 j h1 h2 i' ((a8r ks ns i _ i').1 hi'))).mono ?_
  rintro e w' ⟨rfl,⟨O',hw'⟩,sm'⟩
  exact ⟨rfl,⟨_,_,O',F',hw',by simp,rfl⟩,(h.same hbX).trans (sm.trans sm')⟩
theorem LW.b5c (h:LW A base R w wb t u m ks ns O F) (hi:ks[i]?=some k) (ht:t≤240000) (hu:u≤240000) (hm:m≤100000000) (hbX:Below w.heap.size w X) :
  ∃ (D:World→Value→Prop) (n:Nat),n≤1000 ∧
   (Calls Tryz.prog 56 #[.pointer (some ⟨k.fb,0,none⟩)] X fun e w1=>∃ a c,e=.returned (.slice a n c)∧D w1 (.slice a n c)) ∧
   (∀ w1 v,D w1 v→∀ j o val,w.heap.size≤j→X.cell? ⟨j,o,none⟩=some val→w1.cell? ⟨j,o,none⟩=some val) ∧
   (∀ w1 v,D w1 v→Calls Tryz.prog 111 #[.pointer (some ⟨k.rb,0,none⟩)] w1 fun e w2=>∃ a c,e=.returned (.slice a n c) ∧
    Calls Tryz.prog 109 #[.pointer (some ⟨wb,0,none⟩),v,.slice a n c] w2 fun e w'=>e=.returned (.bool true)∧KW A base R wb t u m ks ns w w'):=by
 have hil:i<ks.length:=(List.getElem?_eq_some_iff.1 hi).1
 have hL:=h.low hbX
 have hk:=hL.kn i k hi
 obtain ⟨b,F1,F2,h1,h2,h3,h4,h5,h6⟩:=hk.how
 have hfew:=a7z hk.g hk.s
 refine ⟨fun w1 v=>Pks w1 X.heap.size v (k.s.tick k.g k.p)∧Below X.heap.size X w1,(k.s.tick k.g k.p).length,by omega,?_,?_,?_⟩
 ·refine (b48 A base k.fb b k.g k.p k.s F1 hk.g hk.p hk.s X h1 hL.sl h2).mono ?_
  rintro e w1 ⟨⟨v,rfl,hp⟩,hb⟩
  obtain ⟨a,c,rfl⟩:=a01 hp.own
  exact ⟨a,c,rfl,hp,hb⟩
 ·intro w1 v hd j o val hj hc
  exact (hd.2.cell (p:=⟨j,o,none⟩) (lt_of_cell hc)).trans hc
 ·intro w1 v ⟨hp,hb⟩
  refine (b2l k.rb k.g k.p k.s m F2 hk.g hk.p hm w1 (h3.low hb)).mono ?_
  rintro e w2 ⟨⟨v2,rfl,hp2⟩,hb2⟩
  obtain ⟨a,c,rfl⟩:=a01 hp2.own
  refine ⟨a,c,rfl,?_⟩
  have l1:=(hL.low hb).low hb2
  refine (l1.sends ht hu (by omega) (fun y hy=>(b1x hk.g hk.p hk.s y hy).2.1) (hp.alike (Alike.of_below hb2 (fun _=>False)) (fun _ _ _ h=>h)) hp2 ⟨fun j hj=>hL.rl j hj,fun j hj=>hL.bk.lt j hj⟩ (fun j h1 _ i' hi' hc=>by have:=hL.lt hi' hc;omega)).mono ?_
  rintro e w' ⟨rfl,⟨O',hw'⟩,sm'⟩
  exact ⟨rfl,⟨_,_,O',_,hw'.more (Nat.le_refl _) (Nat.le_refl _) (Nat.le_succ _),rfl,rfl⟩,(h.same hbX).trans ((hL.same hb).trans (((hL.low hb).same hb2).trans sm'))⟩
theorem LW.a9e (h:LW A base R w wb t u m ks ns O F) (ht:t≤240000) (hbX:Below w.heap.size w X) {w1 w2:World} {v v2:Value} {ws:List Wd} (hws:ws.length≤1000000) (hp:Wrd w1 X.heap.size v ws) (hb:Below X.heap.size X w1) (hp2:Wrd w2 w1.heap.size v2 ws) (hb2:Below w1.heap.size w1 w2) :
  Calls Tryz.prog 113 #[v,v2] w2 fun e w3=>e=.returned (.bool true)∧Calls Tryz.prog 114 #[.pointer (some ⟨wb,0,none⟩),v] w3 fun e w'=>e=.returned (.tuple #[])∧KW A base R wb t u m ks ns w w':=by
 have hL:=h.low hbX
 obtain ⟨a,c,rfl⟩:=a01 hp.own
 obtain ⟨a2,c2,rfl⟩:=a01 hp2.own
 have hp':Wrd w2 X.heap.size (.slice a ws.length c) ws:=⟨a1a hp.own hb2⟩
 refine (a9t _ _ a a2 c c2 ws hws w2 hp' hp2).mono ?_
 rintro e w3 ⟨rfl,hb3⟩
 refine ⟨rfl,?_⟩
 have l1:=((hL.low hb).low hb2).low hb3
 refine (l1.b8g ht hws (⟨a1a hp'.own hb3⟩:Wrd w3 X.heap.size (.slice a ws.length c) ws) ⟨fun j hj=>hL.rl j hj,fun j hj=>hL.bk.lt j hj,fun i' hi' j hj=>hL.lt hi' hj⟩).mono ?_
 rintro e w' ⟨rfl,⟨O',hw'⟩,sm'⟩
 exact ⟨rfl,⟨_,_,O',_,hw'.more (Nat.le_refl _) (Nat.le_succ _) (Nat.le_succ _),rfl,rfl⟩,(h.same hbX).trans ((hL.same hb).trans (((hL.low hb).same hb2).trans ((((hL.low hb).low hb2).same hb3).trans sm')))⟩
theorem LW.aw9 (h:LW A base R w wb t u m ks ns O F) (ht:t≤240000) (hbX:Below w.heap.size w X) {w1 w2:World} {v v2:Value} {n:Nat} {vs:List Int} (hws:n≤1000) (hp:w1.ownsRow X.heap.size 3 1 v n (irow vs)) (hb:Below X.heap.size X w1) (hp2:w2.ownsRow w1.heap.size 3 1 v2 n (irow vs)) (hb2:Below w1.heap.size w1 w2) :
  Calls Tryz.prog 117 #[v,v2] w2 fun e w3=>e=.returned (.bool true)∧Calls Tryz.prog 118 #[.pointer (some ⟨wb,0,none⟩),v] w3 fun e w'=>e=.returned (.tuple #[])∧KW A base R wb t u m ks ns w w':=by
 have hL:=h.low hbX
 obtain ⟨a,c,rfl⟩:=a01 hp
 obtain ⟨a2,c2,rfl⟩:=a01 hp2
 have hp':=a1a hp hb2
 refine (a6c a a2 n c c2 vs w2 (av8 hp') (av8 hp2) hws).mono ?_
 rintro e w3 ⟨rfl,hb3⟩
 refine ⟨rfl,?_⟩
 have l1:=((hL.low hb).low hb2).low hb3
 refine (l1.b67 ht (by omega) (a1a hp' hb3) ⟨fun j hj=>hL.rl j hj,fun j hj=>hL.bk.lt j hj,fun i' hi' j hj=>hL.lt hi' hj⟩).mono ?_
 rintro e w' ⟨rfl,⟨O',hw'⟩,sm'⟩
 exact ⟨rfl,⟨_,_,O',_,hw'.more (Nat.le_refl _) (Nat.le_succ _) (Nat.le_succ _),rfl,rfl⟩,(h.same hbX).trans ((hL.same hb).trans (((hL.low hb).same hb2).trans ((((hL.low hb).low hb2).same hb3).trans sm')))⟩
theorem LW.b3n (h:LW A base R w wb t u m ks ns O F) (hi:ks[i]?=some k) (ht:t≤240000) (hbX:Below w.heap.size w X) :
  ∃ (D:World→Value→Prop) (n:Nat),
   (Calls Tryz.prog 30 #[.pointer (some ⟨k.fb,0,none⟩)] X fun e w1=>∃ a c,e=.returned (.slice a n c)∧D w1 (.slice a n c)) ∧
   (∀ w1 v,D w1 v→∀ j o val,w.heap.size≤j→X.cell? ⟨j,o,none⟩=some val→w1.cell? ⟨j,o,none⟩=some val) ∧
   (∀ w1 v,D w1 v→Calls Tryz.prog 112 #[.pointer (some ⟨k.rb,0,none⟩)] w1 fun e w2=>∃ a c,e=.returned (.slice a n c) ∧
    Calls Tryz.prog 113 #[v,.slice a n c] w2 fun e w3=>e=.returned (.bool true)∧Calls Tryz.prog 114 #[.pointer (some ⟨wb,0,none⟩),v] w3 fun e w'=>e=.returned (.tuple #[])∧KW A base R wb t u m ks ns w w'):=by
 have hL:=h.low hbX
 have hk:=hL.kn i k hi
 obtain ⟨b,F1,F2,h1,h2,h3,h4,h5,h6⟩:=hk.how
 have hfew:=hk.s.clk.short hk.g hk.p
 refine ⟨fun w1 v=>Wrd w1 X.heap.size v k.s.hs∧Below X.heap.size X w1,k.s.hs.length,?_,?_,?_⟩
 ·refine (b1n k.fb b k.g k.p k.s F1 hk.g hk.p hk.s X h1 h2).mono ?_
  rintro e w1 ⟨⟨v,rfl,hp⟩,hb⟩
  obtain ⟨a,c,rfl⟩:=a01 hp.own
  exact ⟨a,c,rfl,hp,hb⟩
 ·intro w1 v hd j o val hj hc
  exact (hd.2.cell (p:=⟨j,o,none⟩) (lt_of_cell hc)).trans hc
 ·intro w1 v ⟨hp,hb⟩
  refine (au1 k.rb k.g k.p k.s m F2 hk.g hk.p w1 (h3.low hb)).mono ?_
  rintro e w2 ⟨⟨v2,rfl,hp2⟩,hb2⟩
  obtain ⟨a,c,rfl⟩:=a01 hp2.own
  exact ⟨a,c,rfl,h.a9e ht hbX (by omega) hp hb hp2 hb2⟩
theorem LW.b1g (h:LW A base R w wb t u m ks ns O F) (hi:ks[i]?=some k) (ht:t≤240000) (hm:m≤100000000) (hbX:Below w.heap.size w X) :
  ∃ (D:World→Value→Prop) (n:Nat),
   (Calls Tryz.prog 32 #[.pointer (some ⟨k.fb,0,none⟩)] X fun e w1=>∃ a c,e=.returned (.slice a n c)∧D w1 (.slice a n c)) ∧
   (∀ w1 v,D w1 v→∀ j o val,w.heap.size≤j→X.cell? ⟨j,o,none⟩=some val→w1.cell? ⟨j,o,none⟩=some val) ∧
   (∀ w1 v,D w1 v→Calls Tryz.prog 115 #[.pointer (some ⟨k.rb,0,none⟩)] w1 fun e w2=>∃ a c,e=.returned (.slice a n c) ∧
    Calls Tryz.prog 113 #[v,.slice a n c] w2 fun e w3=>e=.returned (.bool true)∧Calls Tryz.prog 114 #[.pointer (some ⟨wb,0,none⟩),v] w3 fun e w'=>e=.returned (.tuple #[])∧KW A base R wb t u m ks ns w w'):=by
 have hL:=h.low hbX
 have hk:=hL.kn i k hi
 obtain ⟨b,F1,F2,h1,h2,h3,h4,h5,h6⟩:=hk.how
 have hfew:=au9 hk.s hk.g
 refine ⟨fun w1 v=>Wrd w1 X.heap.size v k.s.kept∧Below X.heap.size X w1,k.s.kept.length,?_,?_,?_⟩
 ·refine (b43 k.fb b k.g k.p k.s F1 hk.g hk.s X h1 h2).mono ?_
  rintro e w1 ⟨⟨v,rfl,hp⟩,hb⟩
  obtain ⟨a,c,rfl⟩:=a01 hp.own
  exact ⟨a,c,rfl,hp,hb⟩
 ·intro w1 v hd j o val hj hc
  exact (hd.2.cell (p:=⟨j,o,none⟩) (lt_of_cell hc)).trans hc
 ·intro w1 v ⟨hp,hb⟩
  refine (ax3 k.rb k.g k.p k.s m F2 hk.g hk.p hm w1 (h3.low hb)).mono ?_
  rintro e w2 ⟨⟨v2,rfl,hp2⟩,hb2⟩
  obtain ⟨a,c,rfl⟩:=a01 hp2.own
  exact ⟨a,c,rfl,h.a9e ht hbX (by omega) hp hb hp2 hb2⟩
theorem LW.b2x (h:LW A base R w wb t u m ks ns O F) (hi:ks[i]?=some k) (ht:t≤240000) (hbX:Below w.heap.size w X) :
  ∃ (D:World→Value→Prop) (n:Nat),
   (Calls Tryz.prog 33 #[.pointer (some ⟨k.fb,0,none⟩)] X fun e w1=>∃ a c,e=.returned (.slice a n c)∧D w1 (.slice a n c)) ∧
   (∀ w1 v,D w1 v→∀ j o val,w.heap.size≤j→X.cell? ⟨j,o,none⟩=some val→w1.cell? ⟨j,o,none⟩=some val) ∧
   (∀ w1 v,D w1 v→Calls Tryz.prog 116 #[.pointer (some ⟨k.rb,0,none⟩)] w1 fun e w2=>∃ a c,e=.returned (.slice a n c) ∧
    Calls Tryz.prog 117 #[v,.slice a n c] w2 fun e w3=>e=.returned (.bool true)∧Calls Tryz.prog 118 #[.pointer (some ⟨wb,0,none⟩),v] w3 fun e w'=>e=.returned (.tuple #[])∧KW A base R wb t u m ks ns w w'):=by
 have hL:=h.low hbX
 have hk:=hL.kn i k hi
 obtain ⟨b,F1,F2,h1,h2,h3,h4,h5,h6⟩:=hk.how
 have hn:=hk.g.n
 refine ⟨fun w1 v=>w1.ownsRow X.heap.size 3 1 v k.g.n (irow (k.s.vs.getD k.p []))∧Below X.heap.size X w1,k.g.n,?_,?_,?_⟩
 ·refine (b2n k.fb b k.g k.p k.s F1 hk.g hk.p X h1 h2).mono ?_
  rintro e w1 ⟨⟨v,rfl,hp⟩,hb⟩
  obtain ⟨a,c,rfl⟩:=a01 hp
  exact ⟨a,c,rfl,hp,hb⟩
 ·intro w1 v hd j o val hj hc
  exact (hd.2.cell (p:=⟨j,o,none⟩) (lt_of_cell hc)).trans hc
 ·intro w1 v ⟨hp,hb⟩
  refine (b4t k.rb k.g k.p k.s m F2 hk.g hk.p w1 (h3.low hb)).mono ?_
  rintro e w2 ⟨⟨v2,rfl,hp2⟩,hb2⟩
  obtain ⟨a,c,rfl⟩:=a01 hp2
  exact ⟨a,c,rfl,h.aw9 ht hbX (by omega) hp hb hp2 hb2⟩
theorem LW.b4x (h:LW A base R w wb t u m ks ns O F) (hi:ks[i]?=some k) (ht:t≤240000) (hm:m≤100000000) (hbX:Below w.heap.size w X) (q:Int) :
  ∃ (D:World→Value→Prop) (n kk:Nat),(n=0∨(kk=0∧((n:Int) == 0)=false))∧n≤1000 ∧
   (Calls Tryz.prog 119 #[.pointer (some ⟨k.fb,0,none⟩),.int .i64 q] X fun e w1=>∃ a c,e=.returned (.tuple #[.slice a n c,.int .i64 (kk:Int)])∧D w1 (.slice a n c)) ∧
   (∀ w1 v,D w1 v→∀ j o val,w.heap.size≤j→X.cell? ⟨j,o,none⟩=some val→w1.cell? ⟨j,o,none⟩=some val) ∧
   (∀ w1 v,D w1 v→Calls Tryz.prog 120 #[.pointer (some ⟨k.rb,0,none⟩),.int .i64 q] w1 fun e w2=>∃ a c,e=.returned (.tuple #[.slice a n c,.int .i64 (kk:Int)]) ∧
    Calls Tryz.prog 117 #[v,.slice a n c] w2 fun e w3=>e=.returned (.bool true)∧Calls Tryz.prog 118 #[.pointer (some ⟨wb,0,none⟩),v] w3 fun e w'=>e=.returned (.tuple #[])∧KW A base R wb t u m ks ns w w'):=by
 have hL:=h.low hbX
 have hk:=hL.kn i k hi
 obtain ⟨b,F1,F2,h1,h2,h3,h4,h5,h6⟩:=hk.how
 obtain ⟨hfew,hor⟩:=b5h hk.g hk.s q
 refine ⟨fun w1 v=>w1.ownsRow X.heap.size 3 1 v (k.s.view k.g q).length (irow (k.s.view k.g q))∧Below X.heap.size X w1,(k.s.view k.g q).length,viewK k.g.n q,?_,by omega,?_,?_,?_⟩
 ·by_cases e:(k.s.view k.g q).length=0
  ·exact Or.inl e
  ·exact Or.inr ⟨hor.resolve_left e,by simp;exact fun hc=>e (by rw [hc];rfl)⟩
 ·refine (b55 A base k.fb b k.g k.p k.s F1 q hk.g hk.s X h1 hL.sl h2).mono ?_
  rintro e w1 ⟨⟨v,rfl,hp⟩,hb⟩
  obtain ⟨a,c,rfl⟩:=a01 hp
  exact ⟨a,c,rfl,hp,hb⟩
 ·intro w1 v hd j o val hj hc
  exact (hd.2.cell (p:=⟨j,o,none⟩) (lt_of_cell hc)).trans hc
 ·intro w1 v ⟨hp,hb⟩
  refine (b6r k.rb k.g k.p k.s m F2 q hk.g hk.p hm w1 (h3.low hb)).mono ?_
  rintro e w2 ⟨⟨v2,rfl,hp2⟩,hb2⟩
  obtain ⟨a,c,rfl⟩:=a01 hp2
  exact ⟨a,c,rfl,h.aw9 ht hbX (by omega) hp hb hp2 hb2⟩
end
def LRow (w:World) (ao:Option Addr) (zs:List Int):Prop:=(ao=none∧zs=[])∨∃ g,ao=some ⟨g,0,none⟩∧RowI w g zs
theorem cbox (w:World) (N W B L:Int) (t:TypeId):(w.alloc (.cells #[.int .i64 N,.int .i64 W,.int .i64 B,.int .i64 L] t)).cell? ⟨w.heap.size,0,none⟩=some (.int .i64 N)∧(w.alloc (.cells #[.int .i64 N,.int .i64 W,.int .i64 B,.int .i64 L] t)).cell? ⟨w.heap.size,1,none⟩=some (.int .i64 W)∧(w.alloc (.cells #[.int .i64 N,.int .i64 W,.int .i64 B,.int .i64 L] t)).cell? ⟨w.heap.size,2,none⟩=some (.int .i64 B)∧(w.alloc (.cells #[.int .i64 N,.int .i64 W,.int .i64 B,.int .i64 L] t)).cell? ⟨w.heap.size,3,none⟩=some (.int .i64 L):=by
 refine ⟨?_,?_,?_,?_⟩<;>simp
theorem a6o (w:World):Ints w none 0 []:=⟨rfl,fun _ hi=>absurd hi (Nat.not_lt_zero _)⟩
theorem b5f (a0 a1:Addr) (N W B L:Int) (s:ByteArray) (w:World) (hw:Sent w a0 a1) (hs:s.size≤maxLen) :
  Calls Tryz.prog 103 #[.agg #[.int .i64 N,.int .i64 W,.int .i64 B,.int .i64 L],.string s] w fun e w'=>e=.returned (.bool true)∧Below w.heap.size w w':=by
 have HW:Hid (Sent w a0 a1):=hw
 have HS:Hid (s.size≤maxLen):=hs
 clear hw hs
 obtain ⟨c0,c1,c2,c3⟩:=cbox w N W B L 26
 go_enter Tryz.func103,Tryz.ntmps103
 go_wp2_with fail
 refine (b04 a0 a1 N W B L _ (HW.out.alloc _)).mono ?_
 rintro e w1 ⟨rfl,hb⟩
 have HB:Hid _:=hb
 have e0:∀ o,w1.cell? ⟨w.heap.size,o,none⟩=(w.alloc (.cells #[.int .i64 N,.int .i64 W,.int .i64 B,.int .i64 L] 26)).cell? ⟨w.heap.size,o,none⟩:=fun o=>hb.cell (p:=⟨w.heap.size,o,none⟩) (by simp)
 have d0:=(e0 0).trans c0
 have d1:=(e0 1).trans c1
 have d2:=(e0 2).trans c2
 have d3:=(e0 3).trans c3
 clear hb e0 c0 c1 c2 c3
 generalize hn:(if okG N W B L=true then (0:Int) else 1)=n
 have HN:Hid ((if okG N W B L=true then (0:Int) else 1)=n):=hn
 clear hn
 go_wp2_with fail
 refine (a14 N W B L _).mono ?_
 rintro e w2 ⟨rfl,hb2⟩
 rw [HN.out]
 have HB2:Hid _:=hb2
 clear hb2
 go_wp2_with (first|(go_at_call 159;refine (b57 _ _ HS.out).mono ?_;rintro e w' ⟨rfl,rfl⟩)|(go_at_call 160;refine (a4w _ _ HS.out).mono ?_;rintro e w' ⟨rfl,rfl⟩)|(go_at_call 107;refine (a11 _ _).mono ?_;rintro e w' ⟨rfl,rfl⟩))
 go_ret
 exact ⟨rfl,bthen (bthen (a00 _ _) HB.out) HB2.out⟩
theorem ai4 (a0 a1:Addr) (N W B L K F O S Lw:Int) (a:Addr) (len cap:Nat) (body:ByteArray) (vs:List Int) (w:World) (hw:Sent w a0 a1) (hi:Ints w (some a) len vs)
  (hl:len * 8≤140737488351232) (hbd:body.size≤maxLen) :
  Calls Tryz.prog 104 #[.agg #[.int .i64 N,.int .i64 W,.int .i64 B,.int .i64 L],.agg #[.int .i64 K,.int .i64 F,.int .i64 O,.int .i64 S,.int .i64 Lw,.slice (some a) len cap,.string body]] w fun e w'=>e=.returned (.bool true)∧Below w.heap.size w w':=by
 have hold:0<len→a.block<w.heap.size:=fun h=>by
  obtain ⟨b,off,e,hb,_⟩:=hi.cell 0 h
  cases e;exact hb
 have HOld:Hid (0<len→a.block<w.heap.size):=hold
 clear hold
 have HW:Hid (Sent w a0 a1):=hw
 have HI:Hid (Ints w (some a) len vs):=hi
 have HL:Hid (vs.length=len):=hi.len
 have HLm:Hid (len≤maxLen):=by show _≤_;unfold maxLen;omega
 have HBd:Hid (body.size≤maxLen):=hbd
 clear hw hi hbd
 have HBX0:Hid _:=a0x w N W B L K F O S Lw (some a) len cap body 26 45
 have HB0:Hid _:=a09 w (.cells #[.int .i64 N,.int .i64 W,.int .i64 B,.int .i64 L] 26) (.cells #[.int .i64 K,.int .i64 F,.int .i64 O,.int .i64 S,.int .i64 Lw,.slice (some a) len cap,.string body] 45)
 go_enter Tryz.func104,Tryz.ntmps104
 go_wp2_with fail
 refine (ae1 a len cap vs _ ((HI.out.alloc _).alloc _) hl).mono ?_
 rintro e w1 ⟨rfl,hr,hb⟩
 have HB:Hid _:=hb
 have BX1:=HBX0.out.below hb (by simp)
 have HBX1:Hid _:=BX1
 obtain ⟨cN,cW,cB,cL,cK,cF,cO,cS,cLw,cV,cT,cz⟩:=BX1
 have hsz:((w.alloc (.cells #[.int .i64 N,.int .i64 W,.int .i64 B,.int .i64 L] 26)).alloc (.cells #[.int .i64 K,.int .i64 F,.int .i64 O,.int .i64 S,.int .i64 Lw,.slice (some a) len cap,.string body] 45)).heap.size=w.heap.size+2:=by simp
 rw [hsz] at hr
 have HR:Hid (RowI w1 (w.heap.size+2) (lent vs (len+5))):=hr
 rw [hsz]
 have hz1:w.heap.size+1<w1.heap.size:=by omega
 have hz0:w.heap.size<w1.heap.size:=by omega
 have hz2:w.heap.size+2<w1.heap.size:=HR.out.lt
 clear hr hb hsz
 have HBA:Hid (Below w.heap.size w w1):=bthen HB0.out HB.out
 have HI1:Hid (Ints w1 (some a) len vs):=HI.out.below HBA.out
 have HLi:Hid (Ints w1 (some ⟨w.heap.size+2,0,none⟩) len vs):=by have:=RowI.ints (vs:=vs) HR.out;rw [HL.out] at this;exact this
 have HW1:Hid (Sent w1 a0 a1):=HW.out.below HBA.out
 go_wp2_with fail
 refine (a8u a0 a1 N W B L K F O S Lw (some ⟨w.heap.size+2,0,none⟩) len (len+5) body vs _ (HW1.out.alloc _) (HLi.out.alloc _) HLm.out HBd.out).mono ?_
 rintro e w2 ⟨rfl,hb2⟩
 have HB2:Hid (Below w1.heap.size w1 w2):=bthen (a00 _ _) hb2
 have BX2:=HBX1.out.below HB2.out cz
 have HBX2:Hid _:=BX2
 clear cN cW cB cL cK cF cO cS cLw cV cT cz hb2 hz0 hz1
 obtain ⟨cN,cW,cB,cL,cK,cF,cO,cS,cLw,cV,cT,cz⟩:=BX2
 generalize hg1:encR N W B L K F O S Lw vs body=r
 have HRR:Hid (encR N W B L K F O S Lw vs body=r):=hg1
 clear hg1
 go_wp2_with fail
 refine (a5r N W B L K F O S Lw (some a) len cap body vs _ (HI1.out.below HB2.out) HLm.out HBd.out).mono ?_
 rintro e w3 ⟨rfl,hb3⟩
 rw [HRR.out]
 have HB3:Hid _:=hb3
 have BX3:=HBX2.out.below hb3 cz
 clear cN cW cB cL cK cF cO cS cLw cV cT cz hb3
 obtain ⟨cN,cW,cB,cL,cK,cF,cO,cS,cLw,cV,cT,cz⟩:=BX3
 have HR3:Hid (RowI w3 (w.heap.size+2) (lent vs (len+5))):=(HR.out.below HB2.out hz2).below HB3.out (Nat.lt_of_lt_of_le hz2 HB2.out.size)
 have HI3:Hid (Ints w3 (some a) len vs):=(HI1.out.below HB2.out).below HB3.out
 go_wp2_with fail
 refine (a9m (w.heap.size+2) a len cap vs _ HR3.out HI3.out (fun h=>Nat.lt_of_lt_of_le (HOld.out h) (by omega)) hl).mono ?_
 rintro e w4 ⟨rfl,hb4⟩
 have HB4:Hid _:=hb4
 clear hb4
 go_wp2_with (go_at_call 107;refine (a11 _ _).mono ?_;rintro e w' ⟨rfl,rfl⟩)
 go_ret
 exact ⟨rfl,(bthen HBA.out (bthen HB2.out HB3.out)).trans (HB4.out.mono (by omega))⟩
theorem aq5 (a0 a1:Addr) (N W B L K F O S Lw:Int) (body:ByteArray) (w:World) (hw:Sent w a0 a1) (hbd:body.size≤maxLen) :
  Calls Tryz.prog 104 #[.agg #[.int .i64 N,.int .i64 W,.int .i64 B,.int .i64 L],.agg #[.int .i64 K,.int .i64 F,.int .i64 O,.int .i64 S,.int .i64 Lw,.slice none 0 0,.string body]] w fun e w'=>e=.returned (.bool true)∧Below w.heap.size w w':=by
 have HW:Hid (Sent w a0 a1):=hw
 have HBd:Hid (body.size≤maxLen):=hbd
 clear hw hbd
 have HBX0:Hid _:=a0x w N W B L K F O S Lw none 0 0 body 26 45
 have HB0:Hid _:=a09 w (.cells #[.int .i64 N,.int .i64 W,.int .i64 B,.int .i64 L] 26) (.cells #[.int .i64 K,.int .i64 F,.int .i64 O,.int .i64 S,.int .i64 Lw,.slice none 0 0,.string body] 45)
 have BX1:=HBX0.out
 go_enter Tryz.func104,Tryz.ntmps104
 go_wp2_with (go_at_call 161;refine (af7 _).mono ?_;rintro e w' ⟨rfl,rfl⟩)
 refine (a8u a0 a1 N W B L K F O S Lw none 0 0 body [] _ (((HW.out.alloc _).alloc _).alloc _) (a6o _) (by decide) HBd.out).mono ?_
 rintro e w2 ⟨rfl,hb2⟩
 have HB2:Hid (Below _ _ w2):=bthen (a00 _ _) hb2
 have BX2:=BX1.below HB2.out (by simp)
 have HBX2:Hid _:=BX2
 clear hb2 BX1
 obtain ⟨cN,cW,cB,cL,cK,cF,cO,cS,cLw,cV,cT,cz⟩:=BX2
 generalize hg1:encR N W B L K F O S Lw [] body=r
 have HRR:Hid (encR N W B L K F O S Lw [] body=r):=hg1
 clear hg1
 go_wp2_with fail
 refine (a5r N W B L K F O S Lw none 0 0 body [] _ (a6o _) (by decide) HBd.out).mono ?_
 rintro e w3 ⟨rfl,hb3⟩
 rw [HRR.out]
 have HB3:Hid _:=hb3
 have BX3:=HBX2.out.below hb3 cz
 clear cN cW cB cL cK cF cO cS cLw cV cT cz hb3
 obtain ⟨cN,cW,cB,cL,cK,cF,cO,cS,cLw,cV,cT,cz⟩:=BX3
 go_wp2_with (first|(go_at_call 163;refine (ad6 _ _).mono ?_;rintro e w' ⟨rfl,rfl⟩)|(go_at_call 107;refine (a11 _ _).mono ?_;rintro e w' ⟨rfl,rfl⟩))
 go_ret
 exact ⟨rfl,bthen (bthen HB0.out HB2.out) HB3.out⟩
structure VecIs (w:World) (ad:Option Addr) (len cap:Nat) (vs:List Int):Prop where
 ints:Ints w ad len vs
 bytes:len * 8≤140737488351232
 nil:ad=none→len=0∧cap=0
theorem ao5 (a0 a1:Addr) (N W B L K F O S Lw:Int) (ad:Option Addr) (len cap:Nat) (body:ByteArray) (vs:List Int) (w:World) (hw:Sent w a0 a1) (hv:VecIs w ad len cap vs) (hbd:body.size≤maxLen) :
  Calls Tryz.prog 104 #[.agg #[.int .i64 N,.int .i64 W,.int .i64 B,.int .i64 L],.agg #[.int .i64 K,.int .i64 F,.int .i64 O,.int .i64 S,.int .i64 Lw,.slice ad len cap,.string body]] w fun e w'=>e=.returned (.bool true)∧Below w.heap.size w w':=by
 cases ad with
 | none =>
  obtain ⟨rfl,rfl⟩:=hv.nil rfl
  exact aq5 a0 a1 N W B L K F O S Lw body w hw hbd
 | some a=>exact ai4 a0 a1 N W B L K F O S Lw a len cap body vs w hw hv.ints hv.bytes hbd
theorem VecIs.below {w w':World} {ad:Option Addr} {len cap:Nat} {vs:List Int} (h:VecIs w ad len cap vs) (hb:Below w.heap.size w w'):VecIs w' ad len cap vs:=
 ⟨h.ints.below hb,h.bytes,h.nil⟩
theorem LRow.ints {w:World} {ao:Option Addr} {vs:List Int} {n:Nat} (h:LRow w ao vs) (hn:vs.length=n):Ints w ao n vs:=by
 rcases h with ⟨rfl,rfl⟩ | ⟨g,rfl,hr⟩
 ·subst hn;exact a6o w
 ·subst hn
  exact RowI.ints (ms:=[]) (by simpa using hr)
structure Both (N W B L:Int) (s:ByteArray) (K F O S Lw:Int) (len:Nat) (vs:List Int) (body:ByteArray) (p k:Int):Prop where
 len8:len≤8
 vlen:vs.length=len
 zero:len=0∨k=0
 face:∀ a0 a1 x,Sent x a0 a1→ErrT x→Calls Tryz.prog 85 #[.agg #[.int .i64 N,.int .i64 W,.int .i64 B,.int .i64 L],.string s] x
  fun e w'=>(∃ ao,e=.returned (.tuple #[.agg #[.int .i64 K,.int .i64 F,.int .i64 O,.int .i64 S,.int .i64 Lw,.slice ao len len,.string body],.int .i64 p,.int .i64 k])∧LRow w' ao vs∧∀ g,ao=some ⟨g,0,none⟩→x.heap.size≤g)∧Below x.heap.size x w'
 ref:∀ x,Calls Tryz.prog 164 #[.agg #[.int .i64 N,.int .i64 W,.int .i64 B,.int .i64 L],.string s] x
  fun e w'=>(∃ ad cap,e=.returned (.tuple #[.agg #[.int .i64 K,.int .i64 F,.int .i64 O,.int .i64 S,.int .i64 Lw,.slice ad len cap,.string body],.int .i64 p,.int .i64 k])∧Ints w' ad len vs)∧Below x.heap.size x w'
theorem Got.row {w:World} {base n:Nat} {K F O S Lw:Int} {vs:List Int} {body:ByteArray} {fv:Value} (h:Got w base n K F O S Lw vs body fv) :
  ∃ ao,fv=.agg #[.int .i64 K,.int .i64 F,.int .i64 O,.int .i64 S,.int .i64 Lw,.slice ao n n,.string body]∧LRow w ao vs∧∀ g,ao=some ⟨g,0,none⟩→base≤g:=by
 obtain ⟨g,hg,rfl,hr⟩:=h.is
 exact ⟨_,rfl,Or.inr ⟨g,rfl,hr⟩,fun g' e=>by cases e;exact hg⟩
theorem b4f (N W B L:Int) (s:ByteArray) (hs:s.size≤maxLen):∃ K F O S Lw len vs body p k,Both N W B L s K F O S Lw len vs body p k:=by
 by_cases hG:okG N W B L=true
 ·obtain ⟨h1,h2,-⟩:=a0u.1 hG
  obtain ⟨n,rfl⟩:∃ n:Nat,N=n:=⟨N.toNat,by omega⟩
  rcases ac3 n W B L s with ⟨hr,hp⟩ | ⟨hr,hp⟩
  ·rcases ap2 hr with k2 | k1
   ·refine ⟨2,byt s 4,0,0,0,n,vecOf s 5 n,⟨#[]⟩,0,0,⟨by omega,a06 _ _ _,Or.inr rfl,?_,?_⟩⟩
    ·intro a0 a1 x hx hT
     refine (a5m a0 a1 n W B L s x hx hT hG hs).mono ?_
     rintro e w' ⟨⟨fv,rfl,-,hy⟩,hb⟩
     rw [hr]
     rcases hy hr with ⟨_,hg⟩ | ⟨c,_⟩
     ·obtain ⟨ao,rfl,hl,hg'⟩:=hg.row
      exact ⟨⟨ao,rfl,hl,hg'⟩,hb⟩
     ·omega
    ·intro x
     refine (a4o n W B L s x hG hs (by omega) k2).mono ?_
     rintro e w' ⟨⟨v,rfl,ho⟩,hb⟩
     obtain ⟨ad,cap,rfl,hi⟩:=ho.ints (a06 _ _ _)
     exact ⟨⟨ad,cap,rfl,hi⟩,hb⟩
   ·refine ⟨1,byt s 4,byt s 5,val s 6 2,val s 8 2,n,vecOf s 10 n,s.extract (11+2 * n) (s.size-4),0,0,⟨by omega,a06 _ _ _,Or.inr rfl,?_,?_⟩⟩
    ·intro a0 a1 x hx hT
     refine (a5m a0 a1 n W B L s x hx hT hG hs).mono ?_
     rintro e w' ⟨⟨fv,rfl,-,hy⟩,hb⟩
     rw [hr]
     rcases hy hr with ⟨c,_⟩ | ⟨_,hg⟩
     ·omega
     ·obtain ⟨ao,rfl,hl,hg'⟩:=hg.row
      exact ⟨⟨ao,rfl,hl,hg'⟩,hb⟩
    ·intro x
     refine (a5a n W B L s x hG hs (by omega) k1).mono ?_
     rintro e w' ⟨⟨v,rfl,ho⟩,hb⟩
     obtain ⟨ad,cap,rfl,hi⟩:=ho.ints (a06 _ _ _)
     exact ⟨⟨ad,cap,rfl,hi⟩,hb⟩
  ·refine ⟨0,0,0,0,0,0,[],⟨#[]⟩,refAt n W B L s,5,⟨by omega,rfl,Or.inl rfl,?_,?_⟩⟩
   ·intro a0 a1 x hx hT
    refine (a5m a0 a1 n W B L s x hx hT hG hs).mono ?_
    rintro e w' ⟨⟨fv,rfl,hn,-⟩,hb⟩
    have hne:¬ rAll n W B L s=none:=by rw [hr];intro h;cases h
    rw [hn hne,hr]
    exact ⟨⟨none,rfl,Or.inl ⟨rfl,rfl⟩,fun g e=>by cases e⟩,hb⟩
   ·intro x
    refine (a5w n W B L s x hG hs hp).mono ?_
    rintro e w' ⟨rfl,hb⟩
    exact ⟨⟨none,0,rfl,a6o _⟩,hb⟩
 ·have hG':okG N W B L=false:=by simpa using hG
  refine ⟨0,0,0,0,0,0,[],⟨#[]⟩,0,1,⟨by omega,rfl,Or.inl rfl,?_,?_⟩⟩
  ·intro a0 a1 x hx hT
   refine (b0o a0 a1 N W B L s x hx hT hG').mono ?_
   rintro e w' ⟨rfl,hb⟩
   exact ⟨⟨none,rfl,Or.inl ⟨rfl,rfl⟩,fun g e=>by cases e⟩,hb⟩
  ·intro x
   refine (al6 N W B L s x hG').mono ?_
   rintro e w' ⟨rfl,hb⟩
   exact ⟨⟨none,0,rfl,a6o _⟩,hb⟩
theorem LRow.owns {w:World} {ao:Option Addr} {vs:List Int} {len z:Nat} (h:LRow w ao vs) (hl:vs.length=len) (h8:len≤100) (hz:∀ g,ao=some ⟨g,0,none⟩→z≤g):w.ownsRow z 3 1 (.slice ao len len) len (irow vs):=by
 rcases h with ⟨rfl,rfl⟩ | ⟨g,rfl,hr⟩
 ·have e:len=0:=by rw [←hl];rfl
  subst e
  exact World.ownsRow_nil _ _ _ _
 ·refine ⟨by simp [irow,hl],Or.inr ⟨g,len,_,rfl,hz g rfl,hr,Nat.le_refl _,by unfold maxLen;omega,by simp [hl],?_⟩⟩
  rw [←hl]
  have e:((vs.map (Value.int .i64)).toArray.toList.take (vs.length * 1))=vs.map (Value.int .i64):=by
   rw [Nat.mul_one]
   exact List.take_of_length_le (by simp)
  exact e
theorem ag5 (A:Nat→Addr) (base:Nat) (R:Nat→Prop) (wb t u m:Nat) (ks:List Kn) (ns:List Wb) (OO:Nat→Prop) (FF:Bool × Nat→Nat→Prop) (N W B L:Int) (s:ByteArray) (ht:t≤240000) (hs:s.size≤maxLen) (w:World) (hT:ErrT w) (h:LW A base R w wb t u m ks ns OO FF) :
  Calls Tryz.prog 105 #[.pointer (some ⟨wb,0,none⟩),.agg #[.int .i64 N,.int .i64 W,.int .i64 B,.int .i64 L],.string s] w fun e w'=>e=.returned (.bool true)∧KW A base R wb t u m ks ns w w':=by
 obtain ⟨K,F,O,S,Lw,len,vs,body,p,k,⟨hlen8,hvl,hz,hface,href⟩⟩:=b4f N W B L s hs
 have HW:Hid (Sent w (A 1) (A 5)):=h.sl.sent
 have HT:Hid (ErrT w):=hT
 have HF:Hid _:=hface
 have HR:Hid _:=href
 have HVL:Hid (vs.length=len):=hvl
 have HKp:Hid (∀ w3 v vs,len≤8→Below w.heap.size w w3→w3.ownsRow w.heap.size 3 1 v len (irow vs)→Calls Tryz.prog 118 #[.pointer (some ⟨wb,0,none⟩),v] w3 fun e w'=>e=.returned (.tuple #[])∧KW A base R wb t u m ks ns w w'):=fun w3 v vs h8 hb ho=>by
  refine ((h.low hb).b67 ht (by omega) ho ⟨fun j hj=>h.rl j hj,fun j hj=>h.bk.lt j hj,fun ι hi j hj=>h.lt hi hj⟩).mono ?_
  rintro e w' ⟨rfl,⟨O',hw'⟩,sm'⟩
  exact ⟨rfl,⟨_,_,O',_,hw'.more (Nat.le_refl _) (Nat.le_succ _) (Nat.le_succ _),rfl,rfl⟩,(h.same hb).trans sm'⟩
 clear h hT hface href hvl hs
 generalize KW A base R wb t u m ks ns w=KK at *
 obtain ⟨c0,c1,c2,c3⟩:=cbox w N W B L 26
 go_enter Tryz.func105,Tryz.ntmps105
 go_wp2_with fail
 refine (HF.out (A 1) (A 5) _ (HW.out.alloc _) (HT.out.below (a00 _ _))).mono ?_
 rintro e w1 ⟨⟨ao,rfl,hl,hg⟩,hb⟩
 have e0:∀ o,w1.cell? ⟨w.heap.size,o,none⟩=(w.alloc (.cells #[.int .i64 N,.int .i64 W,.int .i64 B,.int .i64 L] 26)).cell? ⟨w.heap.size,o,none⟩:=fun o=>hb.cell (p:=⟨w.heap.size,o,none⟩) (by simp)
 have d0:=(e0 0).trans c0
 have d1:=(e0 1).trans c1
 have d2:=(e0 2).trans c2
 have d3:=(e0 3).trans c3
 have HB1:Hid (Below w.heap.size w w1):=bthen (a00 _ _) hb
 have HL1:Hid (LRow w1 ao vs):=hl
 have HG:Hid (∀ g,ao=some ⟨g,0,none⟩→w.heap.size≤g):=fun g e=>by have:=hg g e;simp at this;omega
 have hz1:w.heap.size<w1.heap.size:=by have:=hb.size;simp at this;omega
 clear hb hl hg e0 c0 c1 c2 c3
 go_wp2_with fail
 refine (HR.out _).mono ?_
 rintro e w2 ⟨⟨ad,cap,rfl,hi⟩,hb⟩
 have HS1:Hid _:=(a05 w1 (.int .i64 K) (.int .i64 F) (.int .i64 O) (.int .i64 S) (.int .i64 Lw) (.slice ao len len) (.string body) 45).below hb (by simp)
 have HB2:Hid (Below w1.heap.size w1 w2):=bthen (a00 _ _) hb
 have HI2:Hid (Ints w2 ad len vs):=hi
 have hz2:w1.heap.size<w2.heap.size:=HS1.out.z
 clear hb hi d0 d1 d2 d3
 have hal:Below w2.heap.size w2 (w2.alloc (.cells #[.int .i64 K,.int .i64 F,.int .i64 O,.int .i64 S,.int .i64 Lw,.slice ad len cap,.string body] 45)):=a00 _ _
 have hsg:=a05 w2 (.int .i64 K) (.int .i64 F) (.int .i64 O) (.int .i64 S) (.int .i64 Lw) (.slice ad len cap) (.string body) 45
 have hsf:=HS1.out.below hal hz2
 have HSF:Hid _:=hsf
 have HSG:Hid _:=hsg
 have HAL:Hid _:=hal
 obtain ⟨f0,f1,f2,f3,f4,f5,f6,fz⟩:=hsf
 obtain ⟨g0,g1,g2,g3,g4,g5,g6,gz⟩:=hsg
 go_wp2_with fail
 generalize w2.alloc (.cells #[.int .i64 K,.int .i64 F,.int .i64 O,.int .i64 S,.int .i64 Lw,.slice ad len cap,.string body] 45)=X at *
 refine (a6c ao ad len len cap vs X ((HL1.out.ints HVL.out).below (bthen HB2.out HAL.out)) (HI2.out.below HAL.out) (by omega)).mono ?_
 rintro e w3 ⟨rfl,hb3⟩
 have HB3:Hid (Below w.heap.size w w3):=bthen HB1.out (bthen HB2.out (bthen HAL.out hb3))
 have HB13:Hid (Below w1.heap.size w1 w3):=bthen HB2.out (bthen HAL.out hb3)
 have hF3:=HSF.out.below hb3 HSF.out.z
 have hG3:=HSG.out.below hb3 HSG.out.z
 clear f0 f1 f2 f3 f4 f5 f6 fz g0 g1 g2 g3 g4 g5 g6 gz hal hb3
 obtain ⟨f0,f1,f2,f3,f4,f5,f6,fz⟩:=hF3
 obtain ⟨g0,g1,g2,g3,g4,g5,g6,gz⟩:=hG3
 have eK:((K:Int) == K)=true:=by simp
 have eF:((F:Int) == F)=true:=by simp
 have eO:((O:Int) == O)=true:=by simp
 have eS:((S:Int) == S)=true:=by simp
 have eL:((Lw:Int) == Lw)=true:=by simp
 have ep:((p:Int) == p)=true:=by simp
 have ek:((k:Int) == k)=true:=by simp
 have hz':len=0∨(k=0∧((len:Int) == 0)=false):=by
  by_cases h:len=0
  ·exact Or.inl h
  ·exact Or.inr ⟨hz.resolve_left h,by simp;omega⟩
 clear hz
 rcases hz' with rfl | ⟨rfl,hl0⟩
 all_goals
  go_wp2_with fail
  refine (a11 _ _).mono ?_
  rintro e w' ⟨rfl,rfl⟩
  go_wp2_with fail
  have HLR:Hid (LRow w' ao vs):=by
   rcases HL1.out with ⟨rfl,rfl⟩ | ⟨g,rfl,hr⟩
   ·exact Or.inl ⟨rfl,rfl⟩
   ·exact Or.inr ⟨g,rfl,hr.below HB13.out hr.lt⟩
  refine (show Calls _ _ _ _ _ from HKp.out w' _ vs hlen8 HB3.out (LRow.owns HLR.out HVL.out (by omega) HG.out)).mono ?_
  rintro e w4 ⟨rfl,hk⟩
  have HK:Hid _:=hk
  clear hk f0 f1 f2 f3 f4 f5 f6 g0 g1 g2 g3 g4 g5 g6
  go_wp2_with fail
  go_ret
  exact ⟨rfl,HK.out⟩
end Go.Proofs.YtabecbjfamphbaaGreatDoor
