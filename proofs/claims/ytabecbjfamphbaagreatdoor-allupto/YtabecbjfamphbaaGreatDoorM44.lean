/- A part of the proof. -/
import Derived.Test.YtabecbjfamphbaaGreatDoorM42
import Derived.Test.YtabecbjfamphbaaGreatDoorM43
namespace Go.Proofs.YtabecbjfamphbaaGreatDoor
open Go.RowKit Go.Stop Go.Extern
set_option maxRecDepth 100000
set_option maxHeartbeats 4000000
theorem b89 (A:Nat→Addr) (base:Nat) (R:Nat→Prop) (wb t u m:Nat) (ks:List Kn) (ns:List Wb) (O:Nat→Prop) (F:Bool × Nat→Nat→Prop) (i:Nat) (k:Kn) (on oa:Int) (ox:ByteArray) (N W B L f0 f1 f2 f3 f4:Int) (fa:Option Addr) (fl fc:Nat) (fs:ByteArray) (_hi:ks[i]?=some k) (_ht:t≤240000) (_hu:u≤240000) (_hm:m≤100000000) (w:World) (h:LW A base R w wb t u m ks ns O F) :
  Calls Tryz.prog 68 #[.pointer (some ⟨wb,0,none⟩),.agg #[.pointer (some ⟨k.fb,0,none⟩),.pointer (some ⟨k.rb,0,none⟩)],.agg #[.int .i64 19,.int .i64 on,.int .i64 oa,.string ox,.int .i64 N,.int .i64 W,.int .i64 B,.int .i64 L,.int .i64 f0,.int .i64 f1,.int .i64 f2,.int .i64 f3,.int .i64 f4,.slice fa fl fc,.string fs]] w fun e w'=>e=.returned (.bool true)∧KW A base R wb t u m ks ns w w':=by
 obtain ⟨X,hX⟩:∃ X,X=((w.alloc (.cells #[.pointer (some ⟨k.fb,0,none⟩),.pointer (some ⟨k.rb,0,none⟩)] 123)).alloc (.cells #[.int .i64 19,.int .i64 on,.int .i64 oa,.string ox,.int .i64 N,.int .i64 W,.int .i64 B,.int .i64 L,.int .i64 f0,.int .i64 f1,.int .i64 f2,.int .i64 f3,.int .i64 f4,.slice fa fl fc,.string fs] 81)):=⟨_,rfl⟩
 have hbX:Below w.heap.size w X:=by rw [hX];exact bthen (a00 _ _) (a00 _ _)
 have HK:Hid (KW A base R wb t u m ks ns w X):=⟨⟨ks,ns,O,F,(h.low hbX).more (Nat.le_succ _) (Nat.le_succ _) (Nat.le_succ _),rfl,rfl⟩,h.same hbX⟩
 subst hX
 clear h hbX
 generalize KW A base R wb t u m ks ns w=KK at *
 go_enter Tryz.func68,Tryz.ntmps68
 go_wp2_with fail
 go_ret
 exact ⟨rfl,HK.out⟩
theorem b5d (A:Nat→Addr) (base:Nat) (R:Nat→Prop) (wb t u m:Nat) (ks:List Kn) (ns:List Wb) (O:Nat→Prop) (F:Bool × Nat→Nat→Prop) (i:Nat) (k:Kn) (K:Int) (on oa:Int) (ox:ByteArray) (N W B L f0 f1 f2 f3 f4:Int) (fa:Option Addr) (fl fc:Nat) (fs:ByteArray) (hK:11≤K∧K≤19) (hi:ks[i]?=some k) (ht:t≤240000) (hu:u≤240000) (hm:m≤100000000) (ha:I64 oa) (hx:ox.size≤maxLen) (w:World) (h:LW A base R w wb t u m ks ns O F) :
  Calls Tryz.prog 68 #[.pointer (some ⟨wb,0,none⟩),.agg #[.pointer (some ⟨k.fb,0,none⟩),.pointer (some ⟨k.rb,0,none⟩)],.agg #[.int .i64 K,.int .i64 on,.int .i64 oa,.string ox,.int .i64 N,.int .i64 W,.int .i64 B,.int .i64 L,.int .i64 f0,.int .i64 f1,.int .i64 f2,.int .i64 f3,.int .i64 f4,.slice fa fl fc,.string fs]] w fun e w'=>e=.returned (.bool true)∧KW A base R wb t u m ks ns w w':=by
 have hc:K=11∨K=12∨K=13∨K=14∨K=15∨K=16∨K=17∨K=18∨K=19:=by omega
 rcases hc with rfl | rfl | rfl | rfl | rfl | rfl | rfl | rfl | rfl
 ·exact b7u A base R wb t u m ks ns O F i k on oa ox N W B L f0 f1 f2 f3 f4 fa fl fc fs hi ht hu hm w h
 ·exact b4l A base R wb t u m ks ns O F i k on oa ox N W B L f0 f1 f2 f3 f4 fa fl fc fs hi ht hu hm hx w h
 ·exact b49 A base R wb t u m ks ns O F i k on oa ox N W B L f0 f1 f2 f3 f4 fa fl fc fs hi ht hu hm ha w h
 ·exact b4o A base R wb t u m ks ns O F i k on oa ox N W B L f0 f1 f2 f3 f4 fa fl fc fs hi ht hu hm w h
 ·exact b42 A base R wb t u m ks ns O F i k on oa ox N W B L f0 f1 f2 f3 f4 fa fl fc fs hi ht hu hm w h
 ·exact b1w A base R wb t u m ks ns O F i k on oa ox N W B L f0 f1 f2 f3 f4 fa fl fc fs hi ht hu hm w h
 ·exact b4u A base R wb t u m ks ns O F i k on oa ox N W B L f0 f1 f2 f3 f4 fa fl fc fs hi ht hu hm w h
 ·exact b1d A base R wb t u m ks ns O F i k on oa ox N W B L f0 f1 f2 f3 f4 fa fl fc fs hi ht hu hm w h
 ·exact b89 A base R wb t u m ks ns O F i k on oa ox N W B L f0 f1 f2 f3 f4 fa fl fc fs hi ht hu hm w h
section
variable {g:Gr} {x:MNet} {m:Nat}
theorem WOk.put {b:List Pk} (h:WOk g x m) {p:Nat} {s:NS} (hs:s.Ok g p) (hb:∀ t∈b,(∃ q:Nat,t.to=q∧q<g.n)∧t.text.size≤100) (hl:b.length≤520 * (m+1)):WOk g { x.put p s with bag:=b } (m+1):=
 ⟨fun q hq=>by
  show (if q=p then s else x.nd q).Ok g q
  split
  ·rename_i e;subst e;exact hs
  ·exact h.nd q hq,hb,fun q hq=>⟨(h.ref q hq).1,by have:=(h.ref q hq).2;show x.ref q≤_;omega⟩,hl⟩
theorem WOk.refuse {b:List Pk} (h:WOk g x m) {p:Nat} {s:NS} (hs:s.Ok g p) (hb:∀ t∈b,(∃ q:Nat,t.to=q∧q<g.n)∧t.text.size≤100) (hl:b.length≤520 * (m+1)):WOk g (MNet.refuse { x.put p s with bag:=b } p) (m+1):=
 ⟨(h.put hs hb hl).nd,hb,fun q hq=>by
  have h1:=h.ref q hq
  show 0≤(if q=p then x.ref p+1 else x.ref q)∧(if q=p then x.ref p+1 else x.ref q)≤_
  split
  ·rename_i e;subst e;constructor<;>omega
  ·constructor<;>omega,hl⟩
theorem WOk.lay {b:List Pk} (h:WOk g x m) (hb:∀ t∈b,(∃ q:Nat,t.to=q∧q<g.n)∧t.text.size≤100) (hl:b.length≤520 * (m+1)):WOk g { x with bag:=b } (m+1):=
 ⟨h.nd,hb,fun q hq=>⟨(h.ref q hq).1,by have:=(h.ref q hq).2;show x.ref q≤_;omega⟩,hl⟩
theorem WOk.sayR (h:WOk g x m) (hg:g.Ok) (p:Int) (body:ByteArray):WOk g (x.sayR g p body).x (m+1):=by
 unfold MNet.sayR
 split
 ·rename_i hi
  obtain ⟨q,rfl,hq⟩:=a0s hi
  simp only [Int.toNat_natCast]
  have hf:=ad9 g q (x.nd q) body
  have hn:=hg.n
  have h1:=h.few
  exact h.put ((h.nd q hq).say hg hq body) (fun t ht=>by
   rcases List.mem_append.1 ht with h1 | h1
   ·exact h.bag t h1
   ·have:=b6c hg hq (h.nd q hq) body t h1
    exact ⟨this.1,this.2.1⟩) (by rw [List.length_append];omega)
 ·exact h.more (Nat.le_succ m)
theorem WOk.tickR (h:WOk g x m) (hg:g.Ok) (p:Int):WOk g (x.tickR g p).x (m+1):=by
 unfold MNet.tickR
 split
 ·rename_i hi
  obtain ⟨q,rfl,hq⟩:=a0s hi
  simp only [Int.toNat_natCast]
  have hf:=a7z hg (h.nd q hq)
  have h1:=h.few
  exact h.lay (fun t ht=>by
   rcases List.mem_append.1 ht with h1 | h1
   ·exact h.bag t h1
   ·have:=b1x hg hq (h.nd q hq) t h1
    exact ⟨this.1,this.2.1⟩) (by rw [List.length_append];omega)
 ·exact h.more (Nat.le_succ m)
theorem WOk.dropR (h:WOk g x m) (k:Int):WOk g (x.dropR k).x (m+1):=by
 unfold MNet.dropR
 split
 ·have h1:=h.few
  have h2:=List.length_eraseIdx_le x.bag k.toNat
  exact h.lay (fun t ht=>h.bag t (List.mem_of_mem_eraseIdx ht)) (by omega)
 ·exact h.more (Nat.le_succ m)
theorem WOk.copyR (h:WOk g x m) (k:Int):WOk g (x.copyR k).x (m+1):=by
 unfold MNet.copyR
 split
 ·rename_i t ht
  obtain ⟨q,rfl,hq⟩:=a3z ht
  have h1:=h.few
  exact h.lay (fun u hu=>by
   rcases List.mem_append.1 hu with h1 | h1
   ·exact h.bag u h1
   ·rw [List.mem_singleton] at h1
    rw [h1]
    exact h.bag t (List.mem_of_getElem? hq)) (by rw [List.length_append,List.length_singleton];omega)
 ·exact h.more (Nat.le_succ m)
theorem WOk.sendR (h:WOk g x m) (p:Int) (s:ByteArray):WOk g (x.sendR g p s).x (m+1):=by
 unfold MNet.sendR
 split
 ·rename_i hi
  split
  ·rename_i hs
   have h1:=h.few
   exact h.lay (fun u hu=>by
    rcases List.mem_append.1 hu with h1 | h1
    ·exact h.bag u h1
    ·rw [List.mem_singleton] at h1
     rw [h1]
     exact ⟨a0s hi,hs⟩) (by rw [List.length_append,List.length_singleton];omega)
  ·exact h.more (Nat.le_succ m)
 ·exact h.more (Nat.le_succ m)
theorem WOk.a0y (h:WOk g x m) (hg:g.Ok) (k:Int):WOk g (x.a0y g k).x (m+1):=by
 unfold MNet.a0y
 split
 ·rename_i t ht
  obtain ⟨q,rfl,hq⟩:=a3z ht
  obtain ⟨⟨p,hp1,hp2⟩,_⟩:=h.bag t (List.mem_of_getElem? hq)
  obtain ⟨tn,tx⟩:=t
  have hp1':tn=(p:Int):=hp1
  subst hp1'
  have hh:=b0z hg hp2 (h.nd p hp2) tx
  have hb:∀ t∈x.bag.eraseIdx q++((x.nd p).hear g p tx).ps,(∃ q:Nat,t.to=q∧q<g.n)∧t.text.size≤100:=fun u hu=>by
   rcases List.mem_append.1 hu with h1 | h1
   ·exact h.bag u (List.mem_of_mem_eraseIdx h1)
   ·have:=hh.ps u h1
    exact ⟨this.1,this.2.1⟩
  have hl:(x.bag.eraseIdx q++((x.nd p).hear g p tx).ps).length≤520 * (m+1):=by
   have h1:=h.few
   have h2:=List.length_eraseIdx_le x.bag q
   have h3:=hh.few
   have h4:=hg.n.2
   rw [List.length_append]
   omega
  unfold MNet.a2g
  simp only [Int.toNat_natCast]
  split
  ·exact h.put hh.ok hb hl
  ·exact h.refuse hh.ok hb hl
 ·exact h.more (Nat.le_succ m)
end
section
variable {A:Nat→Addr} {base:Nat} {R:Nat→Prop} {w X:World} {wb t u m:Nat} {ks:List Kn} {ns:List Wb} {O:Nat→Prop} {F:Bool × Nat→Nat→Prop} {i:Nat} {k:Wb}
theorem LW.a4s (h:LW A base R w wb t u m ks ns O F) (hi:ns[i]?=some k) (hbX:Below w.heap.size w X) {x':MNet} (hx':WOk k.g x' (m+1)) {f1 f2:FuncId} {a1 a2:Array Value} {v:Value}
  (hf:∀ F1,NetAt X k.fb k.g k.x F1→(∀ j,F1 j→base≤j)→Sl X A base→Calls Tryz.prog f1 a1 X fun e w1=>e=.returned v∧NDid X w1 k.fb k.g F1 x')
  (hr:∀ w1 F2,a0v w1 k.nb k.g k.x m F2→Calls Tryz.prog f2 a2 w1 fun e w2=>e=.returned v∧RNDid w1 w2 k.nb k.g F2 x' (m+1)) :
  ∃ D:World→Prop,(Calls Tryz.prog f1 a1 X fun e w1=>e=.returned v∧D w1)∧(∀ w1,D w1→∀ j o val,w.heap.size≤j→X.cell? ⟨j,o,none⟩=some val→w1.cell? ⟨j,o,none⟩=some val) ∧
   (∀ w1,D w1→Calls Tryz.prog f2 a2 w1 fun e w2=>e=.returned v∧KW A base R wb t u m ks ns w w2):=by
 have hil:i<ns.length:=(List.getElem?_eq_some_iff.1 hi).1
 have hL:=h.low hbX
 have hk:=hL.nt i k hi
 obtain ⟨F1,F2,h1,h2,h3,h4⟩:=hk.how
 have hlt0:∀ j,F (true,i) j→j<w.heap.size:=fun j hj=>h.lt (ι:=(true,i)) hil hj
 refine ⟨fun w1=>NDid X w1 k.fb k.g F1 x',hf F1 h1 (fun j hj=>hL.bf (true,i) hil j ((h4 j).2 (Or.inl hj))) hL.sl,fun w1 hd j o val hj hc=>hd.rest.cell hc (fun hF=>by have:=hlt0 j ((h4 j).2 (Or.inl hF));omega),fun w1 hd=>?_⟩
 have hr0:a0v w1 k.nb k.g k.x m F2:=h2.alike hd.rest (fun j hj hc=>h3 j hc hj)
 refine (hr w1 F2 hr0).mono ?_
 rintro e w2 ⟨rfl,hd2⟩
 refine ⟨rfl,?_⟩
 obtain ⟨F1',n1,n2⟩:=hd.net
 obtain ⟨F2',r1,r2⟩:=hd2.net
 have hs1:=hd.rest.size
 have hs2:=hd2.rest.size
 have hsX:=hbX.size
 have hF2l:∀ j,F2 j→j<X.heap.size:=fun j hj=>by have:=hlt0 j ((h4 j).2 (Or.inr hj));omega
 have h12:∀ j,F1' j→¬ F2 j:=fun j hj hc=>by
  rcases n2 j hj with h5 | h5
  ·exact h3 j h5 hc
  ·have:=hF2l j hc
   omega
 have n3:=n1.alike hd2.rest h12
 obtain ⟨F',k1,k2⟩:=av3 (w:=w2) (k:={ k with x:=x' }) (m:=m+1) hk.g hx' n3 r1 (fun j hj hc=>by
  have h8:=n1.lt hj
  rcases r2 j hc with h7 | h7
  ·exact h12 j hj h7
  ·omega)
 have hF'n:∀ j,F' j→F (true,i) j∨X.heap.size≤j:=fun j hj=>by
  rcases k2 j hj with h7 | h7
  ·rcases n2 j h7 with h8 | h8
   ·exact Or.inl ((h4 j).2 (Or.inl h8))
   ·exact Or.inr h8
  ·rcases r2 j h7 with h8 | h8
   ·exact Or.inl ((h4 j).2 (Or.inr h8))
   ·exact Or.inr (by omega)
 have hal:Alike X w2 (F (true,i)):=((Alike.refl X _).trans hd.rest (fun j _ hj=>(h4 j).2 (Or.inl hj))).trans hd2.rest (fun j _ hj=>(h4 j).2 (Or.inr hj))
 obtain ⟨l1,l2⟩:=hL.b84 (k':={ k with x:=x' }) hi rfl rfl hal k1 hF'n
 exact ⟨⟨ks,_,O,_,l1.more (Nat.le_succ _) (Nat.le_succ _) (Nat.le_refl _),rfl,by simp⟩,(h.same hbX).trans l2⟩
theorem LW.ar2 (h:LW A base R w wb t u m ks ns O F) (hi:ns[i]?=some k) (hbX:Below w.heap.size w X) {f1 f2:FuncId} {a1 a2:Array Value} {v:Value}
  (hf:∀ F1,NetAt X k.fb k.g k.x F1→Sl X A base→Calls Tryz.prog f1 a1 X fun e w1=>e=.returned v∧Below X.heap.size X w1)
  (hr:∀ w1 F2,a0v w1 k.nb k.g k.x m F2→Calls Tryz.prog f2 a2 w1 fun e w2=>e=.returned v∧Below w1.heap.size w1 w2) :
  ∃ D:World→Prop,(Calls Tryz.prog f1 a1 X fun e w1=>e=.returned v∧D w1)∧(∀ w1,D w1→∀ j o val,w.heap.size≤j→X.cell? ⟨j,o,none⟩=some val→w1.cell? ⟨j,o,none⟩=some val) ∧
   (∀ w1,D w1→∀ y,Below w1.heap.size w1 y→Calls Tryz.prog f2 a2 y fun e w2=>e=.returned v∧(∀ w3,Below w2.heap.size w2 w3→KW A base R wb t u m ks ns w w3)∧Below y.heap.size y w2):=by
 have hL:=h.low hbX
 obtain ⟨F1,F2,h1,h2,h3,h4⟩:=(hL.nt i k hi).how
 refine ⟨fun w1=>Below X.heap.size X w1,hf F1 h1 hL.sl,fun w1 hd j o val hj hc=>(hd.cell (p:=⟨j,o,none⟩) (lt_of_cell hc)).trans hc,fun w1 hd0 y hy=>?_⟩
 have hd:Below X.heap.size X y:=bthen hd0 hy
 refine (hr y F2 (h2.low hd)).mono ?_
 rintro e w2 ⟨rfl,hd2⟩
 refine ⟨rfl,fun w3 hd3=>⟨⟨ks,ns,O,F,(((hL.low hd).low hd2).low hd3).more (Nat.le_succ _) (Nat.le_succ _) (Nat.le_succ _),rfl,rfl⟩,(h.same hbX).trans ((hL.same hd).trans (((hL.low hd).same hd2).trans (((hL.low hd).low hd2).same hd3)))⟩,hd2⟩
theorem LW.av5 (h:LW A base R w wb t u m ks ns O F) (hi:ns[i]?=some k) (ht:t≤240000) (hbX:Below w.heap.size w X) {f1 f2:FuncId} {a1 a2:Array Value} {ws:List Wd} {kk:Nat} (hws:ws.length≤1000000)
  (hf:∀ F1,NetAt X k.fb k.g k.x F1→Sl X A base→Calls Tryz.prog f1 a1 X fun e w1=>(∃ v,e=.returned (.tuple #[v,.int .i64 (kk:Int)])∧Wrd w1 X.heap.size v ws)∧Below X.heap.size X w1)
  (hr:∀ w1 F2,a0v w1 k.nb k.g k.x m F2→Calls Tryz.prog f2 a2 w1 fun e w2=>(∃ v,e=.returned (.tuple #[v,.int .i64 (kk:Int)])∧Wrd w2 w1.heap.size v ws)∧Below w1.heap.size w1 w2) :
  ∃ D:World→Value→Prop,(Calls Tryz.prog f1 a1 X fun e w1=>∃ a c,e=.returned (.tuple #[.slice a ws.length c,.int .i64 (kk:Int)])∧D w1 (.slice a ws.length c))∧(∀ w1 v,D w1 v→∀ j o val,w.heap.size≤j→X.cell? ⟨j,o,none⟩=some val→w1.cell? ⟨j,o,none⟩=some val) ∧
   (∀ w1 v,D w1 v→Calls Tryz.prog f2 a2 w1 fun e w2=>∃ a c,e=.returned (.tuple #[.slice a ws.length c,.int .i64 (kk:Int)]) ∧
    Calls Tryz.prog 113 #[v,.slice a ws.length c] w2 fun e w3=>e=.returned (.bool true)∧Calls Tryz.prog 114 #[.pointer (some ⟨wb,0,none⟩),v] w3 fun e w'=>e=.returned (.tuple #[])∧KW A base R wb t u m ks ns w w'):=by
 have hL:=h.low hbX
 obtain ⟨F1,F2,h1,h2,h3,h4⟩:=(hL.nt i k hi).how
 refine ⟨fun w1 v=>Wrd w1 X.heap.size v ws∧Below X.heap.size X w1,(hf F1 h1 hL.sl).mono ?_,fun w1 v hd j o val hj hc=>(hd.2.cell (p:=⟨j,o,none⟩) (lt_of_cell hc)).trans hc,fun w1 v ⟨hp,hb⟩=>(hr w1 F2 (h2.low hb)).mono ?_⟩
 ·rintro e w1 ⟨⟨v,rfl,hp⟩,hb⟩
  obtain ⟨a,c,rfl⟩:=a01 hp.own
  exact ⟨a,c,rfl,hp,hb⟩
 ·rintro e w2 ⟨⟨v2,rfl,hp2⟩,hb2⟩
  obtain ⟨a,c,rfl⟩:=a01 hp2.own
  exact ⟨a,c,rfl,h.a9e ht hbX hws hp hb hp2 hb2⟩
end
theorem Tryz.b71:(Tryz.prog.info? 128).map (fun i=>(i.zero,i.size,i.bytes))=some (some (.agg #[.pointer none,.pointer none]),2,16):=by kernel_rfl
def NW (A:Nat→Addr) (base:Nat) (R:Nat→Prop) (wb t u m:Nat) (ks:List Kn) (ns:List Wb) (c d:Nat) (w w':World):Prop:=(∃ ks' ns' O' F',LW A base R w' wb t u (m+1) ks' ns' O' F'∧ks'.length=ks.length+c∧ns'.length=ns.length+d)∧Kp2 R w w'
theorem WOk.new {g:Gr} (hg:g.Ok) (m:Nat):WOk g (MNet.new g) m:=⟨fun p _=>NS.b27 hg p,fun t ht=>(by cases ht),fun p _=>⟨Int.le_refl _,by show (0:Int)≤_;omega⟩,Nat.zero_le _⟩
section
variable {A:Nat→Addr} {base:Nat} {R:Nat→Prop} {w X:World} {wb t u m:Nat} {ks:List Kn} {ns:List Wb} {O:Nat→Prop} {F:Bool × Nat→Nat→Prop}
theorem LW.b6z (h:LW A base R w wb t u m ks ns O F) (hbX:Below w.heap.size w X) (N W B L:Int) (h0:okG N W B L=true) :
  ∃ (D:World→Nat→Prop),
   (Calls Tryz.prog 39 #[.agg #[.int .i64 N,.int .i64 W,.int .i64 B,.int .i64 L]] X fun e w1=>∃ fb,e=.returned (.tuple #[.pointer (some ⟨fb,0,none⟩),.int .i64 0])∧D w1 fb) ∧
   (∀ w1 fb,D w1 fb→∀ j o val,X.cell? ⟨j,o,none⟩=some val→w1.cell? ⟨j,o,none⟩=some val) ∧
   (∀ w1 fb,D w1 fb→Calls Tryz.prog 121 #[.agg #[.int .i64 N,.int .i64 W,.int .i64 B,.int .i64 L]] w1 fun e w2=>∃ nb,e=.returned (.tuple #[.pointer (some ⟨nb,0,none⟩),.int .i64 0]) ∧
    ∃ ka kc,w2.cell? ⟨wb,4,none⟩=some (.slice ka ns.length kc)∧w2.ownsRow 0 128 2 (.slice ka ns.length kc) ns.length (wbrow ns)∧(∃ cur,w2.heap[wb]?=some (.cells cur 79 (0,0))) ∧
    ∀ w',Grw 79 w2 w' wb 4 128 2 ka (ns.length+1) (wbrow ns++[.pointer (some ⟨fb,0,none⟩),.pointer (some ⟨nb,0,none⟩)])→NW A base R wb t u m ks ns 0 1 w w'):=by
 have hL:=h.low hbX
 have hb0:=hbX.size
 obtain ⟨g,hg,rfl,rfl,rfl,rfl⟩:∃ (g:Gr),g.Ok∧(g.n:Int)=N∧g.W=W∧g.B=B∧g.L=L:=by
  have h4:=a0u.1 h0
  exact ⟨⟨N.toNat,W,B,L⟩,⟨⟨by simp only;omega,by simp only;omega⟩,⟨by simp only;omega,by simp only;omega⟩,⟨by simp only;omega,by simp only;omega⟩,⟨by simp only;omega,by simp only;omega⟩⟩,by simp only;omega,rfl,rfl,rfl⟩
 refine ⟨fun w1 fb=>(∃ F1,NetAt w1 fb g (MNet.new g) F1∧∀ k,F1 k→X.heap.size≤k)∧Below X.heap.size X w1,?_,?_,?_⟩
 ·refine (ax9 A base g hg X hL.sl).mono ?_
  rintro e w1 ⟨⟨fb,F1,rfl,h1,h2⟩,hb⟩
  exact ⟨fb,rfl,⟨F1,h1,h2⟩,hb⟩
 ·intro w1 fb hd j o val hc
  exact (hd.2.cell (p:=⟨j,o,none⟩) (lt_of_cell hc)).trans hc
 ·rintro w1 fb ⟨⟨F1,h1,h2⟩,hb⟩
  refine (an9 g hg w1).mono ?_
  rintro e w2 ⟨⟨nb,F2,rfl,r1,r2⟩,hb2⟩
  have hL2:=(hL.low hb).low hb2
  have hbs:=hb.size
  obtain ⟨ka,kc,c4,hown,hka⟩:=hL2.bk.nt
  refine ⟨nb,rfl,ka,kc,c4,hown,hL2.bk.ty,fun w' hg'=>?_⟩
  obtain ⟨F',k1,k2⟩:=av3 (w:=w2) (k:=⟨fb,nb,g,MNet.new g⟩) (m:=m+1) hg (WOk.new hg _) (h1.low hb2) (r1.more (Nat.zero_le _)) (fun j hj hc=>by
   have:=h1.lt hj
   have:=r2 j hc
   omega)
  have hbw:Below w.heap.size w w2:=bthen hbX (bthen hb hb2)
  obtain ⟨⟨O',F'',l1⟩,l2⟩:=h.addN (k:=⟨fb,nb,g,MNet.new g⟩) hbw k1 (fun j hj=>by
   rcases k2 j hj with h7 | h7
   ·have:=h2 j h7
    omega
   ·have:=r2 j h7
    omega) hown hka (by
   rw [ah8]
   exact hg')
  exact ⟨⟨ks,_,O',F'',l1,rfl,by simp⟩,l2⟩
end
theorem b78 (A:Nat→Addr) (base:Nat) (R:Nat→Prop) (wb t u m:Nat) (ks:List Kn) (ns:List Wb) (O:Nat→Prop) (F:Bool × Nat→Nat→Prop) (N W B L:Int) (h0:okG N W B L=true) (hm:m≤1000000) (w:World) (h:LW A base R w wb t u m ks ns O F) :
  Calls Tryz.prog 70 #[.pointer (some ⟨wb,0,none⟩),.agg #[.int .i64 N,.int .i64 W,.int .i64 B,.int .i64 L]] w fun e w'=>e=.returned (.bool true)∧NW A base R wb t u m ks ns 0 1 w w':=by
 have hfew:=h.few
 obtain ⟨X,hX⟩:∃ X,X=w.alloc (.cells #[.int .i64 N,.int .i64 W,.int .i64 B,.int .i64 L] 26):=⟨_,rfl⟩
 have hbX:Below w.heap.size w X:=by rw [hX];exact a00 _ _
 have qo:∀ j,X.cell? ⟨w.heap.size,j,none⟩=#[Value.int .i64 N,.int .i64 W,.int .i64 B,.int .i64 L][j]?:=fun j=>by rw [hX];exact cell_of_row _ _ j _ _ (0,0) (heap_alloc_new _ _)
 obtain ⟨D,hF,hC,hR⟩:=h.b6z hbX N W B L h0
 have HF:Hid _:=hF
 have HR:Hid _:=hR
 have HC:Hid (∀ w1 fb,D w1 fb→w1.cell? ⟨w.heap.size,0,none⟩=some (.int .i64 N)∧w1.cell? ⟨w.heap.size,1,none⟩=some (.int .i64 W)∧w1.cell? ⟨w.heap.size,2,none⟩=some (.int .i64 B)∧w1.cell? ⟨w.heap.size,3,none⟩=some (.int .i64 L)):=fun w1 fb hd=>⟨hC w1 fb hd _ 0 _ (qo 0),hC w1 fb hd _ 1 _ (qo 1),hC w1 fb hd _ 2 _ (qo 2),hC w1 fb hd _ 3 _ (qo 3)⟩
 obtain ⟨i0,hi,hz0,hz1,hz2⟩:=info_parts Tryz.b71
 subst hX
 clear h hF hC hR qo hbX h0
 generalize NW A base R wb t u m ks ns 0 1 w=KK at *
 have hkl:ns.length≤1000000:=by omega
 generalize wbrow ns=kr at *
 generalize ns.length=kl at *
 go_enter Tryz.func70,Tryz.ntmps70
 go_wp2_with fail
 generalize w.alloc (.cells #[.int .i64 N,.int .i64 W,.int .i64 B,.int .i64 L] 26)=X at *
 refine (show Calls _ _ _ _ _ from HF.out).mono ?_
 rintro e w1 ⟨fb,rfl,hd⟩
 obtain ⟨q4,q5,q6,q7⟩:=HC.out w1 _ hd
 have HD:Hid _:=hd
 clear hd
 go_wp2_with fail
 refine (show Calls _ _ _ _ _ from HR.out w1 _ HD.out).mono ?_
 rintro e w2 ⟨nb,rfl,ka,kc,c3,hown,hty,hadd⟩
 have HAdd:Hid _:=hadd
 have HTy:Hid _:=hty
 have HOw:Hid _:=hown
 have hnb:some wb≠(Value.slice ka kl kc).ownBlock:=fun he=>by
  obtain ⟨cur,e⟩:=hty
  obtain ⟨_,e'⟩:=a02 hown (a1d hown he.symm)
  exact ty_ne e e' (by decide) rfl
 have fz:=a0h hty 4
 have hbX:wb<w2.heap.size:=lt_of_cell c3
 have HO:Hid (∀ x:World,Below w2.heap.size w2 x→x.ownsRow 0 128 2 (.slice ka kl kc) kl kr):=fun x hx=>a1a hown hx
 have hone:∀ u∈([.pointer (some ⟨fb,0,none⟩),.pointer (some ⟨nb,0,none⟩)]:List Value),u.oneCell'=true:=by
  intro u hu
  simp at hu
  rcases hu with rfl | rfl<;>rfl
 clear hown hty hadd q4 q5 q6 q7
 go_wp2_with fail
 refine (a11 _ _).mono ?_
 rintro e w2 ⟨rfl,rfl⟩
 go_wp2_with (at_builtin;refine wpList_append_lies _ rfl (.tmp 36) (.tmp 40) 76 rfl 0 128 i0 _ 2 16 Tryz.underlying76 hi hz0 hz1 hz2 rfl (by decide) (.slice ka kl kc) kl kr rfl (HO.out _ (a00 _ _)) ⟨w2.heap.size,0,none⟩ 1 1 [.pointer (some ⟨fb,0,none⟩),.pointer (some ⟨nb,0,none⟩)] rfl rfl (World.news_of_block (heap_alloc_new w2 _)) hone (by decide) (by unfold maxLen;omega) (by omega) (Nat.zero_le _) _ rfl ?_)
 intro g' cap' v1 hown hgrow hat hlt2
 have c11:v1.cell? ⟨wb,4,none⟩=some (.slice ka kl kc):=(hgrow.cell_far ⟨wb,4,none⟩ (by simp;omega) hnb).trans ((Below.cell (B:=w2.heap.size) (w:=w2) (a00 _ _) (p:=⟨wb,4,none⟩) hbX).trans c3)
 have f11:v1.frozen? ⟨wb,4,none⟩=false:=(hgrow.frozen_far ⟨wb,4,none⟩ (by simp;omega) hnb).trans ((Below.frozen (B:=w2.heap.size) (w:=w2) (a00 _ _) (p:=⟨wb,4,none⟩) hbX).trans fz)
 have HG2:Hid (Grw 79 w2 (v1.setCell ⟨wb,4,none⟩ (.slice (some ⟨g',0,none⟩) (kl+1) cap')) wb 4 128 2 ka (kl+1) (kr++[.pointer (some ⟨fb,0,none⟩),.pointer (some ⟨nb,0,none⟩)])):=a7g (t:=79) (i:=4) (u:=.slice ka kl kc) HTy.out (by decide) HOw.out (a00 _ _) hgrow hat (by simp) hown c11
 clear hown hgrow hat hlt2
 go_wp2_with fail
 go_ret
 exact ⟨rfl,HAdd.out _ HG2.out⟩
theorem b86 (A:Nat→Addr) (base:Nat) (R:Nat→Prop) (wb t u m:Nat) (ks:List Kn) (ns:List Wb) (O:Nat→Prop) (F:Bool × Nat→Nat→Prop) (N W B L:Int) (h0:okG N W B L=false) (w:World) (h:LW A base R w wb t u m ks ns O F) :
  Calls Tryz.prog 70 #[.pointer (some ⟨wb,0,none⟩),.agg #[.int .i64 N,.int .i64 W,.int .i64 B,.int .i64 L]] w fun e w'=>e=.returned (.bool true)∧NW A base R wb t u m ks ns 0 0 w w':=by
 obtain ⟨X,hX⟩:∃ X,X=w.alloc (.cells #[.int .i64 N,.int .i64 W,.int .i64 B,.int .i64 L] 26):=⟨_,rfl⟩
 have hbX:Below w.heap.size w X:=by rw [hX];exact a00 _ _
 have qo:∀ j,X.cell? ⟨w.heap.size,j,none⟩=#[Value.int .i64 N,.int .i64 W,.int .i64 B,.int .i64 L][j]?:=fun j=>by rw [hX];exact cell_of_row _ _ j _ _ (0,0) (heap_alloc_new _ _)
 have HF:Hid _:=b2w A base N W B L X (h.low hbX).sl h0
 have HR:Hid (∀ w1,Below X.heap.size X w1→Calls Tryz.prog 121 #[.agg #[.int .i64 N,.int .i64 W,.int .i64 B,.int .i64 L]] w1 fun e w2=>e=.returned (.tuple #[.pointer none,.int .i64 1])∧∀ w',w2=w'→NW A base R wb t u m ks ns 0 0 w w'):=fun w1 hb=>by
  refine (b09 N W B L w1 h0).mono ?_
  rintro e w2 ⟨rfl,hb2⟩
  refine ⟨rfl,fun w' e=>?_⟩
  subst e
  have hbw:Below w.heap.size w w2:=bthen hbX (bthen hb hb2)
  exact ⟨⟨ks,ns,O,F,(h.low hbw).more (Nat.le_refl _) (Nat.le_refl _) (Nat.le_succ _),rfl,rfl⟩,(h.same hbw).kp⟩
 have HC:Hid (∀ w1,Below X.heap.size X w1→w1.cell? ⟨w.heap.size,0,none⟩=some (.int .i64 N)∧w1.cell? ⟨w.heap.size,1,none⟩=some (.int .i64 W)∧w1.cell? ⟨w.heap.size,2,none⟩=some (.int .i64 B)∧w1.cell? ⟨w.heap.size,3,none⟩=some (.int .i64 L)):=fun w1 hb=>⟨(hb.cell (p:=⟨w.heap.size,0,none⟩) (lt_of_cell (qo 0))).trans (qo 0),(hb.cell (p:=⟨w.heap.size,1,none⟩) (lt_of_cell (qo 1))).trans (qo 1),(hb.cell (p:=⟨w.heap.size,2,none⟩) (lt_of_cell (qo 2))).trans (qo 2),(hb.cell (p:=⟨w.heap.size,3,none⟩) (lt_of_cell (qo 3))).trans (qo 3)⟩
 subst hX
 clear h qo hbX h0
 generalize NW A base R wb t u m ks ns 0 0 w=KK at *
 go_enter Tryz.func70,Tryz.ntmps70
 go_wp2_with fail
 generalize w.alloc (.cells #[.int .i64 N,.int .i64 W,.int .i64 B,.int .i64 L] 26)=X at *
 refine (show Calls _ _ _ _ _ from HF.out).mono ?_
 rintro e w1 ⟨rfl,hb1⟩
 obtain ⟨q4,q5,q6,q7⟩:=HC.out w1 hb1
 have HB1:Hid (Below X.heap.size X w1):=hb1
 clear hb1
 go_wp2_with fail
 refine (show Calls _ _ _ _ _ from HR.out w1 HB1.out).mono ?_
 rintro e w2 ⟨rfl,hK⟩
 have HK:Hid _:=hK
 clear hK q4 q5 q6 q7
 go_wp2_with (go_at_call 107;refine (a11 _ _).mono ?_;rintro e w' ⟨rfl,rfl⟩)
 go_ret
 exact ⟨rfl,HK.out _ rfl⟩
theorem Tryz.b4w:(Tryz.prog.info? 123).map (fun i=>(i.zero,i.size,i.bytes))=some (some (.agg #[.pointer none,.pointer none]),2,16):=by kernel_rfl
section
variable {A:Nat→Addr} {base:Nat} {R:Nat→Prop} {w X:World} {wb t u m:Nat} {ks:List Kn} {ns:List Wb} {O:Nat→Prop} {F:Bool × Nat→Nat→Prop}
theorem LW.b6p (h:LW A base R w wb t u m ks ns O F) (hbX:Below w.heap.size w X) (N W B L oa:Int) (h0:a0d N W B L oa=0) :
  ∃ (D:World→Nat→Prop),
   (Calls Tryz.prog 27 #[.agg #[.int .i64 N,.int .i64 W,.int .i64 B,.int .i64 L],.int .i64 oa] X fun e w1=>∃ fb,e=.returned (.tuple #[.pointer (some ⟨fb,0,none⟩),.int .i64 0])∧D w1 fb) ∧
   (∀ w1 fb,D w1 fb→∀ j o val,X.cell? ⟨j,o,none⟩=some val→w1.cell? ⟨j,o,none⟩=some val) ∧
   (∀ w1 fb,D w1 fb→Calls Tryz.prog 106 #[.agg #[.int .i64 N,.int .i64 W,.int .i64 B,.int .i64 L],.int .i64 oa] w1 fun e w2=>∃ rb,e=.returned (.tuple #[.pointer (some ⟨rb,0,none⟩),.int .i64 0]) ∧
    ∃ ka kc,w2.cell? ⟨wb,3,none⟩=some (.slice ka ks.length kc)∧w2.ownsRow 0 123 2 (.slice ka ks.length kc) ks.length (knrow ks)∧(∃ cur,w2.heap[wb]?=some (.cells cur 79 (0,0))) ∧
    ∀ w',Grw 79 w2 w' wb 3 123 2 ka (ks.length+1) (knrow ks++[.pointer (some ⟨fb,0,none⟩),.pointer (some ⟨rb,0,none⟩)])→NW A base R wb t u m ks ns 1 0 w w'):=by
 have hL:=h.low hbX
 have hb0:=hbX.size
 obtain ⟨g,p,hg,hp,rfl,rfl,rfl,rfl,rfl⟩:∃ (g:Gr) (p:Nat),g.Ok∧p<g.n∧(g.n:Int)=N∧g.W=W∧g.B=B∧g.L=L∧(p:Int)=oa:=by
  unfold a0d at h0
  split at h0
  ·rename_i hh
   simp only [Bool.and_eq_true,decide_eq_true_eq] at hh
   obtain ⟨h1,h2,h3⟩:=hh
   have h4:=a0u.1 h1
   refine ⟨⟨N.toNat,W,B,L⟩,oa.toNat,⟨⟨by simp only;omega,by simp only;omega⟩,⟨by simp only;omega,by simp only;omega⟩,⟨by simp only;omega,by simp only;omega⟩,⟨by simp only;omega,by simp only;omega⟩⟩,by simp only;omega,by simp only;omega,rfl,rfl,rfl,by omega⟩
  ·cases h0
 refine ⟨fun w1 fb=>(∃ b F1,w1.cell? ⟨fb,0,none⟩=some (.pointer (some ⟨b,0,none⟩))∧a0m w1 b g p (NS.new g) F1∧(∀ k,F1 k→X.heap.size≤k∧k≠fb)∧X.heap.size≤fb)∧Below X.heap.size X w1,?_,?_,?_⟩
 ·refine (b6t A base g p hg hp X hL.sl).mono ?_
  rintro e w1 ⟨⟨fb,b,F1,rfl,h1,h2,h3,h4⟩,hb⟩
  exact ⟨fb,rfl,⟨b,F1,h1,h2,h3,h4⟩,hb⟩
 ·intro w1 fb hd j o val hc
  exact (hd.2.cell (p:=⟨j,o,none⟩) (lt_of_cell hc)).trans hc
 ·rintro w1 fb ⟨⟨b,F1,h1,h2,h3,h4⟩,hb⟩
  refine (b2u (g.n:Int) g.W g.B g.L (p:Int) w1).mono ?_
  rintro e w2 ⟨⟨v,rfl,_,hyes⟩,hb2⟩
  obtain ⟨rb,F2,rfl,r1,r2⟩:=hyes h0
  have r1':RefAt w2 rb g p (NS.new g) 0 F2:=by
   have e1:(g.n:Int).toNat=g.n:=by omega
   have e2:(p:Int).toNat=p:=by omega
   rw [e1,e2] at r1
   exact r1
  have hL2:=(hL.low hb).low hb2
  have hbs:=hb.size
  obtain ⟨ka,kc,c3,hown,hka⟩:=hL2.bk.kn
  rw [h0]
  refine ⟨rb,rfl,ka,kc,c3,hown,hL2.bk.ty,fun w' hg'=>?_⟩
  have hfl:fb<w1.heap.size:=lt_of_cell h1
  obtain ⟨F',k1,k2⟩:=ag1 (w:=w2) (k:=⟨fb,rb,g,p,NS.new g⟩) (m:=m+1) hg hp (NS.b27 hg p) ((hb2.cell (p:=⟨fb,0,none⟩) hfl).trans h1) (h2.low hb2) (r1'.more (Nat.zero_le _)) (fun j hj=>⟨fun hc=>by
   have:=h2.lt hj
   have:=r2 j hc
   omega,(h3 j hj).2⟩) (fun j hj e=>by
   have:=r2 j hj
   have e':j=fb:=e
   omega)
  have hbw:Below w.heap.size w w2:=bthen hbX (bthen hb hb2)
  obtain ⟨⟨O',F'',l1⟩,l2⟩:=h.add (k:=⟨fb,rb,g,p,NS.new g⟩) hbw k1 (fun j hj=>by
   rcases k2 j hj with e | h7 | h7
   ·have e':j=fb:=e
    omega
   ·have:=(h3 j h7).1
    omega
   ·have:=r2 j h7
    omega) hown hka (by
   rw [al5]
   exact hg')
  exact ⟨⟨_,ns,O',F'',l1,by simp,rfl⟩,l2⟩
end
theorem b4i (A:Nat→Addr) (base:Nat) (R:Nat→Prop) (wb t u m:Nat) (ks:List Kn) (ns:List Wb) (O:Nat→Prop) (F:Bool × Nat→Nat→Prop) (on oa:Int) (ox:ByteArray) (N W B L f0 f1 f2 f3 f4:Int) (fa:Option Addr) (fl fc:Nat) (fs:ByteArray) (h0:a0d N W B L oa=0) (hm:m≤1000000) (w:World) (h:LW A base R w wb t u m ks ns O F) :
  Calls Tryz.prog 67 #[.pointer (some ⟨wb,0,none⟩),.agg #[.int .i64 10,.int .i64 on,.int .i64 oa,.string ox,.int .i64 N,.int .i64 W,.int .i64 B,.int .i64 L,.int .i64 f0,.int .i64 f1,.int .i64 f2,.int .i64 f3,.int .i64 f4,.slice fa fl fc,.string fs]] w fun e w'=>e=.returned (.bool true)∧NW A base R wb t u m ks ns 1 0 w w':=by
 have hfew:=h.few.1
 obtain ⟨X,hX⟩:∃ X,X=w.alloc (.cells #[.int .i64 10,.int .i64 on,.int .i64 oa,.string ox,.int .i64 N,.int .i64 W,.int .i64 B,.int .i64 L,.int .i64 f0,.int .i64 f1,.int .i64 f2,.int .i64 f3,.int .i64 f4,.slice fa fl fc,.string fs] 81):=⟨_,rfl⟩
 have hbX:Below w.heap.size w X:=by rw [hX];exact a00 _ _
 have qo:∀ j,X.cell? ⟨w.heap.size,j,none⟩=#[Value.int .i64 10,.int .i64 on,.int .i64 oa,.string ox,.int .i64 N,.int .i64 W,.int .i64 B,.int .i64 L,.int .i64 f0,.int .i64 f1,.int .i64 f2,.int .i64 f3,.int .i64 f4,.slice fa fl fc,.string fs][j]?:=fun j=>by rw [hX];exact cell_of_row _ _ j _ _ (0,0) (heap_alloc_new _ _)
 obtain ⟨D,hF,hC,hR⟩:=h.b6p hbX N W B L oa h0
 have HF:Hid _:=hF
 have HR:Hid _:=hR
 have HC:Hid (∀ w1 fb,D w1 fb→w1.cell? ⟨w.heap.size,2,none⟩=some (.int .i64 oa)∧w1.cell? ⟨w.heap.size,4,none⟩=some (.int .i64 N)∧w1.cell? ⟨w.heap.size,5,none⟩=some (.int .i64 W)∧w1.cell? ⟨w.heap.size,6,none⟩=some (.int .i64 B)∧w1.cell? ⟨w.heap.size,7,none⟩=some (.int .i64 L)):=fun w1 fb hd=>⟨hC w1 fb hd _ 2 _ (qo 2),hC w1 fb hd _ 4 _ (qo 4),hC w1 fb hd _ 5 _ (qo 5),hC w1 fb hd _ 6 _ (qo 6),hC w1 fb hd _ 7 _ (qo 7)⟩
 obtain ⟨i0,hi,hz0,hz1,hz2⟩:=info_parts Tryz.b4w
 subst hX
 clear h hF hC hR qo hbX h0
 generalize NW A base R wb t u m ks ns 1 0 w=KK at *
 go_enter Tryz.func67,Tryz.ntmps67
 go_wp2_with fail
 generalize w.alloc (.cells #[.int .i64 10,.int .i64 on,.int .i64 oa,.string ox,.int .i64 N,.int .i64 W,.int .i64 B,.int .i64 L,.int .i64 f0,.int .i64 f1,.int .i64 f2,.int .i64 f3,.int .i64 f4,.slice fa fl fc,.string fs] 81)=X at *
 refine (show Calls _ _ _ _ _ from HF.out).mono ?_
 rintro e w1 ⟨fb,rfl,hd⟩
 obtain ⟨q2,q4,q5,q6,q7⟩:=HC.out w1 _ hd
 have HD:Hid _:=hd
 clear hd
 go_wp2_with fail
 refine (show Calls _ _ _ _ _ from HR.out w1 _ HD.out).mono ?_
 rintro e w2 ⟨rb,rfl,ka,kc,c3,hown,hty,hadd⟩
 have HAdd:Hid _:=hadd
 have HTy:Hid _:=hty
 have HOw:Hid _:=hown
 have hnb:some wb≠(Value.slice ka ks.length kc).ownBlock:=fun he=>by
  obtain ⟨cur,e⟩:=hty
  obtain ⟨_,e'⟩:=a02 hown (a1d hown he.symm)
  exact ty_ne e e' (by decide) rfl
 have fz:=a0h hty 3
 have hbX:wb<w2.heap.size:=lt_of_cell c3
 have HO:Hid (∀ x:World,Below w2.heap.size w2 x→x.ownsRow 0 123 2 (.slice ka ks.length kc) ks.length (knrow ks)):=fun x hx=>a1a hown hx
 have hone:∀ u∈([.pointer (some ⟨fb,0,none⟩),.pointer (some ⟨rb,0,none⟩)]:List Value),u.oneCell'=true:=by
  intro u hu
  simp at hu
  rcases hu with rfl | rfl<;>rfl
 have hkl:ks.length≤1000000:=by omega
 generalize knrow ks=kr at *
 generalize hkl9:ks.length=kl at *
 clear hkl9
 clear hown hty hadd q2 q4 q5 q6 q7
 go_wp2_with fail
 refine (a11 _ _).mono ?_
 rintro e w2 ⟨rfl,rfl⟩
 go_wp2_with (at_builtin;refine wpList_append_lies _ rfl (.tmp 42) (.tmp 46) 75 rfl 0 123 i0 _ 2 16 Tryz.underlying75 hi hz0 hz1 hz2 rfl (by decide) (.slice ka kl kc) kl kr rfl (HO.out _ (a00 _ _)) ⟨w2.heap.size,0,none⟩ 1 1 [.pointer (some ⟨fb,0,none⟩),.pointer (some ⟨rb,0,none⟩)] rfl rfl (World.news_of_block (heap_alloc_new w2 _)) hone (by decide) (by unfold maxLen;omega) (by omega) (Nat.zero_le _) _ rfl ?_)
 intro g' cap' v1 hown hgrow hat hlt2
 have c11:v1.cell? ⟨wb,3,none⟩=some (.slice ka kl kc):=(hgrow.cell_far ⟨wb,3,none⟩ (by simp;omega) hnb).trans ((Below.cell (B:=w2.heap.size) (w:=w2) (a00 _ _) (p:=⟨wb,3,none⟩) hbX).trans c3)
 have f11:v1.frozen? ⟨wb,3,none⟩=false:=(hgrow.frozen_far ⟨wb,3,none⟩ (by simp;omega) hnb).trans ((Below.frozen (B:=w2.heap.size) (w:=w2) (a00 _ _) (p:=⟨wb,3,none⟩) hbX).trans fz)
 have HG2:Hid (Grw 79 w2 (v1.setCell ⟨wb,3,none⟩ (.slice (some ⟨g',0,none⟩) (kl+1) cap')) wb 3 123 2 ka (kl+1) (kr++[.pointer (some ⟨fb,0,none⟩),.pointer (some ⟨rb,0,none⟩)])):=a7g (t:=79) (i:=3) (u:=.slice ka kl kc) HTy.out (by decide) HOw.out (a00 _ _) hgrow hat (by simp) hown c11
 clear hown hgrow hat hlt2
 go_wp2_with fail
 go_ret
 exact ⟨rfl,HAdd.out _ HG2.out⟩
theorem b72 (A:Nat→Addr) (base:Nat) (R:Nat→Prop) (wb t u m:Nat) (ks:List Kn) (ns:List Wb) (O:Nat→Prop) (F:Bool × Nat→Nat→Prop) (on oa:Int) (ox:ByteArray) (N W B L f0 f1 f2 f3 f4:Int) (fa:Option Addr) (fl fc:Nat) (fs:ByteArray) (h0:a0d N W B L oa≠0) (w:World) (h:LW A base R w wb t u m ks ns O F) :
  Calls Tryz.prog 67 #[.pointer (some ⟨wb,0,none⟩),.agg #[.int .i64 10,.int .i64 on,.int .i64 oa,.string ox,.int .i64 N,.int .i64 W,.int .i64 B,.int .i64 L,.int .i64 f0,.int .i64 f1,.int .i64 f2,.int .i64 f3,.int .i64 f4,.slice fa fl fc,.string fs]] w fun e w'=>e=.returned (.bool true)∧NW A base R wb t u m ks ns 0 0 w w':=by
 obtain ⟨X,hX⟩:∃ X,X=w.alloc (.cells #[.int .i64 10,.int .i64 on,.int .i64 oa,.string ox,.int .i64 N,.int .i64 W,.int .i64 B,.int .i64 L,.int .i64 f0,.int .i64 f1,.int .i64 f2,.int .i64 f3,.int .i64 f4,.slice fa fl fc,.string fs] 81):=⟨_,rfl⟩
 have hbX:Below w.heap.size w X:=by rw [hX];exact a00 _ _
 have qo:∀ j,X.cell? ⟨w.heap.size,j,none⟩=#[Value.int .i64 10,.int .i64 on,.int .i64 oa,.string ox,.int .i64 N,.int .i64 W,.int .i64 B,.int .i64 L,.int .i64 f0,.int .i64 f1,.int .i64 f2,.int .i64 f3,.int .i64 f4,.slice fa fl fc,.string fs][j]?:=fun j=>by rw [hX];exact cell_of_row _ _ j _ _ (0,0) (heap_alloc_new _ _)
 have HF:Hid _:=b8e A base N W B L oa h0 X (h.low hbX).sl
 have HR:Hid (∀ w1,Below X.heap.size X w1→Calls Tryz.prog 106 #[.agg #[.int .i64 N,.int .i64 W,.int .i64 B,.int .i64 L],.int .i64 oa] w1 fun e w2=>e=.returned (.tuple #[.pointer none,.int .i64 (a0d N W B L oa:Int)])∧∀ w',w2=w'→NW A base R wb t u m ks ns 0 0 w w'):=fun w1 hb=>by
  refine (b2u N W B L oa w1).mono ?_
  rintro e w2 ⟨⟨v,rfl,hno,_⟩,hb2⟩
  have hv:=hno h0
  subst hv
  refine ⟨rfl,fun w' e=>?_⟩
  subst e
  have hbw:Below w.heap.size w w2:=bthen hbX (bthen hb hb2)
  exact ⟨⟨ks,ns,O,F,(h.low hbw).more (Nat.le_refl _) (Nat.le_refl _) (Nat.le_succ _),rfl,rfl⟩,(h.same hbw).kp⟩
 have HC:Hid (∀ w1,Below X.heap.size X w1→w1.cell? ⟨w.heap.size,2,none⟩=some (.int .i64 oa)∧w1.cell? ⟨w.heap.size,4,none⟩=some (.int .i64 N)∧w1.cell? ⟨w.heap.size,5,none⟩=some (.int .i64 W)∧w1.cell? ⟨w.heap.size,6,none⟩=some (.int .i64 B)∧w1.cell? ⟨w.heap.size,7,none⟩=some (.int .i64 L)):=fun w1 hb=>⟨(hb.cell (p:=⟨w.heap.size,2,none⟩) (lt_of_cell (qo 2))).trans (qo 2),(hb.cell (p:=⟨w.heap.size,4,none⟩) (lt_of_cell (qo 4))).trans (qo 4),(hb.cell (p:=⟨w.heap.size,5,none⟩) (lt_of_cell (qo 5))).trans (qo 5),(hb.cell (p:=⟨w.heap.size,6,none⟩) (lt_of_cell (qo 6))).trans (qo 6),(hb.cell (p:=⟨w.heap.size,7,none⟩) (lt_of_cell (qo 7))).trans (qo 7)⟩
 subst hX
 clear h qo hbX h0
 generalize NW A base R wb t u m ks ns 0 0 w=KK at *
 generalize a0d N W B L oa=kk at *
 have ek:((kk:Int) == kk)=true:=by simp
 go_enter Tryz.func67,Tryz.ntmps67
 go_wp2_with fail
 generalize w.alloc (.cells #[.int .i64 10,.int .i64 on,.int .i64 oa,.string ox,.int .i64 N,.int .i64 W,.int .i64 B,.int .i64 L,.int .i64 f0,.int .i64 f1,.int .i64 f2,.int .i64 f3,.int .i64 f4,.slice fa fl fc,.string fs] 81)=X at *
 refine (show Calls _ _ _ _ _ from HF.out).mono ?_
 rintro e w1 ⟨rfl,hb1⟩
 obtain ⟨q2,q4,q5,q6,q7⟩:=HC.out w1 hb1
 have HB1:Hid (Below X.heap.size X w1):=hb1
 clear hb1
 go_wp2_with fail
 refine (show Calls _ _ _ _ _ from HR.out w1 HB1.out).mono ?_
 rintro e w2 ⟨rfl,hK⟩
 have HK:Hid _:=hK
 clear hK q2 q4 q5 q6 q7
 go_wp2_with (go_at_call 107;refine (a11 _ _).mono ?_;rintro e w' ⟨rfl,rfl⟩)
 go_ret
 exact ⟨rfl,HK.out _ rfl⟩
theorem ai6 (A:Nat→Addr) (base:Nat) (R:Nat→Prop) (wb t u m:Nat) (ks:List Kn) (ns:List Wb) (O:Nat→Prop) (F:Bool × Nat→Nat→Prop) (on oa:Int) (ox:ByteArray) (N W B L f0 f1 f2 f3 f4:Int) (fa:Option Addr) (fl fc:Nat) (fs:ByteArray) (hm:m≤1000000) (w:World) (h:LW A base R w wb t u m ks ns O F) :
  Calls Tryz.prog 37 #[.pointer (some ⟨wb,0,none⟩),.agg #[.int .i64 10,.int .i64 on,.int .i64 oa,.string ox,.int .i64 N,.int .i64 W,.int .i64 B,.int .i64 L,.int .i64 f0,.int .i64 f1,.int .i64 f2,.int .i64 f3,.int .i64 f4,.slice fa fl fc,.string fs]] w fun e w'=>e=.returned (.bool true)∧NW A base R wb t u m ks ns (if a0d N W B L oa=0 then 1 else 0) 0 w w':=by
 have HN:Hid (∀ X,Below w.heap.size w X→Calls Tryz.prog 67 #[.pointer (some ⟨wb,0,none⟩),.agg #[.int .i64 10,.int .i64 on,.int .i64 oa,.string ox,.int .i64 N,.int .i64 W,.int .i64 B,.int .i64 L,.int .i64 f0,.int .i64 f1,.int .i64 f2,.int .i64 f3,.int .i64 f4,.slice fa fl fc,.string fs]] X fun e w'=>e=.returned (.bool true)∧NW A base R wb t u m ks ns (if a0d N W B L oa=0 then 1 else 0) 0 w w'):=fun X hb=>by
  by_cases e:a0d N W B L oa=0
  ·rw [if_pos e]
   exact (b4i A base R wb t u m ks ns O F on oa ox N W B L f0 f1 f2 f3 f4 fa fl fc fs e hm X (h.low hb)).mono fun e w' hh=>⟨hh.1,hh.2.1,(h.same hb).kp.trans hh.2.2⟩
  ·rw [if_neg e]
   exact (b72 A base R wb t u m ks ns O F on oa ox N W B L f0 f1 f2 f3 f4 fa fl fc fs e X (h.low hb)).mono fun e w' hh=>⟨hh.1,hh.2.1,(h.same hb).kp.trans hh.2.2⟩
 clear h
 generalize NW A base R wb t u m ks ns (if a0d N W B L oa=0 then 1 else 0) 0 w=KK at *
 go_enter Tryz.func37,Tryz.ntmps37
 go_wp2_with fail
 refine (show Calls _ _ _ _ _ from HN.out _ (a00 _ _)).mono ?_
 rintro e w' ⟨rfl,hK⟩
 have HK:Hid _:=hK
 clear hK
 go_wp2_with fail
 go_ret
 exact ⟨rfl,HK.out⟩
theorem b1a (A:Nat→Addr) (base:Nat) (R:Nat→Prop) (wb t u m:Nat) (ks:List Kn) (ns:List Wb) (O:Nat→Prop) (F:Bool × Nat→Nat→Prop) (K:Int) (on oa:Int) (ox:ByteArray) (N W B L f0 f1 f2 f3 f4:Int) (fa:Option Addr) (fl fc:Nat) (fs:ByteArray) (hK:11≤K∧K≤19) (hks:ks.length=0) (w:World) (h:LW A base R w wb t u m ks ns O F) :
  Calls Tryz.prog 37 #[.pointer (some ⟨wb,0,none⟩),.agg #[.int .i64 K,.int .i64 on,.int .i64 oa,.string ox,.int .i64 N,.int .i64 W,.int .i64 B,.int .i64 L,.int .i64 f0,.int .i64 f1,.int .i64 f2,.int .i64 f3,.int .i64 f4,.slice fa fl fc,.string fs]] w fun e w'=>e=.returned (.bool true)∧KW A base R wb t u m ks ns w w':=by
 have HK:Hid (∀ X,Below w.heap.size w X→KW A base R wb t u m ks ns w X):=fun X hb=>⟨⟨ks,ns,O,F,(h.low hb).more (Nat.le_succ _) (Nat.le_succ _) (Nat.le_succ _),rfl,rfl⟩,h.same hb⟩
 obtain ⟨ka,kc,c3,_⟩:=(h.low (a00 w (.cells #[.int .i64 K,.int .i64 on,.int .i64 oa,.string ox,.int .i64 N,.int .i64 W,.int .i64 B,.int .i64 L,.int .i64 f0,.int .i64 f1,.int .i64 f2,.int .i64 f3,.int .i64 f4,.slice fa fl fc,.string fs] 81))).bk.kn
 rw [hks] at c3
 obtain ⟨h1,h2⟩:=hK
 clear h hks
 generalize KW A base R wb t u m ks ns w=KK at *
 go_enter Tryz.func37,Tryz.ntmps37
 go_wp2_with fail
 go_ret
 exact ⟨rfl,HK.out _ (a00 _ _)⟩
end Go.Proofs.YtabecbjfamphbaaGreatDoor
