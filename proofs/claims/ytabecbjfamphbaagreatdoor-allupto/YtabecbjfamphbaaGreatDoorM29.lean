/- A part of the proof. -/
import Derived.Test.YtabecbjfamphbaaGreatDoorM28
namespace Go.Proofs.YtabecbjfamphbaaGreatDoor
open Go.RowKit Go.Stop Go.Extern
set_option maxRecDepth 100000
theorem a02 {w:World} {z:Nat} {e:TypeId} {sz:Nat} {ad:Option Addr} {len cap n:Nat} {xs:List Value} (h:w.ownsRow z e sz (.slice ad len cap) n xs) {k:Nat} (hk:onB ad k):∃ cur,w.heap[k]?=some (.cells cur e (0,0)):=by
 obtain ⟨off,hk⟩:=hk
 rcases h.2 with ⟨he,_⟩ | ⟨g',cap',cur,he,_,hh,_⟩
 ·rw [hk] at he;cases he
 ·rw [hk] at he
  cases he
  exact ⟨cur,hh⟩
theorem a1d {w:World} {z:Nat} {e:TypeId} {sz:Nat} {ad:Option Addr} {len cap n:Nat} {xs:List Value} (h:w.ownsRow z e sz (.slice ad len cap) n xs) {k:Nat} (hk:(Value.slice ad len cap).ownBlock=some k):onB ad k:=by
 rcases h.2 with ⟨he,_⟩ | ⟨g',cap',cur,he,_⟩
 ·rw [he] at hk;cases hk
 ·cases he
  cases hk
  exact ⟨0,rfl⟩
structure Grew (w w':World) (b i:Nat) (e:TypeId) (sz:Nat) (ad:Option Addr) (len:Nat) (xs:List Value):Prop where
 how:∃ ad' cap',w'.cell? ⟨b,i,none⟩=some (.slice ad' len cap')∧w'.ownsRow 0 e sz (.slice ad' len cap') len xs∧∀ k,onB ad' k→onB ad k∨w.heap.size≤k
 rest:Alike w w' (fun k=>k=b∨onB ad k)
 others:∀ j v,j≠i→w.cell? ⟨b,j,none⟩=some v→w'.cell? ⟨b,j,none⟩=some v
 ty:∃ cur,w'.heap[b]?=some (.cells cur 228 (0,0))
theorem a9h {w x w1:World} {b i g cap:Nat} {e:TypeId} {sz:Nat} {ad:Option Addr} {len lcap n:Nat} {xs ys:List Value} {u:Value} {H:Nat} (ht:∃ cur,w.heap[b]?=some (.cells cur 228 (0,0))) (he:e≠228) (ho:w.ownsRow 0 e sz (.slice ad len lcap) len xs) (hb:Below w.heap.size w x) (hgr:x.grownBy w1 (Value.slice ad len lcap).ownBlock) (hat:(Value.slice ad len lcap).ownBlock=some g∨g=H) (hH:w.heap.size≤H)
  (how:w1.ownsRow 0 e sz (.slice (some ⟨g,0,none⟩) n cap) n ys) (hc:w1.cell? ⟨b,i,none⟩=some u) :
  Grew w (w1.setCell ⟨b,i,none⟩ (.slice (some ⟨g,0,none⟩) n cap)) b i e sz ad n ys:=by
 obtain ⟨cur,ht⟩:=ht
 have hbl:=lt_of_some ht
 have hnb:¬ onB ad b:=fun hk=>by
  obtain ⟨c,hh⟩:=a02 ho hk
  exact ty_ne hh ht he rfl
 have h1:Alike w w1 (onB ad):=(Alike.of_below hb _).trans (Alike.a2h hgr) (fun k _ hk=>a1d ho hk)
 have hty:w1.heap[b]?=some (.cells cur 228 (0,0)):=(h1.block b hbl hnb).trans ht
 have hset:=Alike.setCell w1 ⟨b,i,none⟩ (.slice (some ⟨g,0,none⟩) n cap)
 have hgn:onB ad g∨w.heap.size≤g:=by
  rcases hat with h | h
  ·exact Or.inl (a1d ho h)
  ·exact Or.inr (by omega)
 have hgb:g≠b:=fun h=>by
  subst h
  rcases hgn with h | h
  ·exact hnb h
  ·omega
 refine ⟨⟨some ⟨g,0,none⟩,cap,?_,a07 how hset (fun k ⟨off,hk⟩ he=>?_),fun k ⟨off,hk⟩=>?_⟩,((Alike.refl w _).trans h1 (fun k _ h=>Or.inr h)).trans hset (fun k _ h=>Or.inl h),fun j v hj hv=>?_,⟨_,heap_setCell_same w1 b i cur _ _ hty⟩⟩
 ·go_simp
 ·cases hk
  exact hgb he
 ·cases hk
  exact hgn
 ·have h2:w1.cell? ⟨b,j,none⟩=some v:=h1.cell hv hnb
  have hj':¬ j=i:=hj
  have hj2:¬ i=j:=fun h=>hj h.symm
  go_simp
structure RMem (w:World) (b:Nat) (g:Gr) (p:Nat) (r:RN) (G:RLay):Prop where
 nd:RNd w b g p r G
 kd:∀ f∈G.fs,f.kind=1
 fv:∀ f∈G.fs,VecAt w g.n f
 sv:∀ f∈G.ss,VecAt w g.n f
 wt:∀ k,onB G.wa k→¬ onB G.ta k
section
variable {w w':World} {b:Nat} {g:Gr} {p:Nat} {r:RN} {G:RLay} {E:Nat→Prop}
theorem RMem.alike (h:RMem w b g p r G) (ha:Alike w w' E) (hE:∀ k,G.foot b k→¬ E k):RMem w' b g p r G:=
 ⟨h.nd.alike ha hE,h.kd,fun f hf=>(h.fv f hf).alike ha (fun k hk=>hE k (Or.inr (Or.inr (Or.inr (Or.inr (Or.inl ⟨f,hf,hk⟩)))))),fun f hf=>(h.sv f hf).alike ha (fun k hk=>hE k (Or.inr (Or.inr (Or.inr (Or.inr (Or.inr ⟨f,hf,hk⟩)))))),h.wt⟩
theorem RMem.low (h:RMem w b g p r G) (hb:Below w.heap.size w w'):RMem w' b g p r G:=h.alike (Alike.of_below hb (fun _=>False)) (fun _ _ h=>h)
theorem RMem.a1k (h:RMem w b g p r G) {k:Nat} (hk:G.foot b k):k<w.heap.size:=by
 rcases hk with rfl | hk | hk | hk | ⟨f,hf,hk⟩ | ⟨f,hf,hk⟩
 ·exact lt_of_cell h.nd.c0
 ·obtain ⟨_,e⟩:=a02 h.nd.wo.own hk;exact lt_of_some e
 ·obtain ⟨_,e⟩:=a02 h.nd.ho hk;exact lt_of_some e
 ·obtain ⟨_,e⟩:=a02 h.nd.tt.own hk;exact lt_of_some e
 ·obtain ⟨_,e⟩:=(h.fv f hf).block hk;exact lt_of_some e
 ·obtain ⟨_,e⟩:=(h.sv f hf).block hk;exact lt_of_some e
theorem RMem.word (h:RMem w b g p r G) {f:Fr} (hG:Grew w w' b 5 45 7 G.wa (G.fs.length+1) (frow g.n (G.fs++[f]))) (hk:f.kind=1) (hv:VecAt w g.n f) (hh:∀ k,onB f.ad k→¬ onB G.ha k) :
  ∃ G',RMem w' b g p (r.with f.fm) G'∧G'.fs=G.fs++[f]∧G'.ss=G.ss∧G'.ha=G.ha∧∀ k,G'.foot b k→G.foot b k∨onB f.ad k∨w.heap.size≤k:=by
 obtain ⟨wa',wcap',e5,hown,hnew⟩:=hG.how
 obtain ⟨cb,hcb⟩:=h.nd.ty
 have hoff:∀ {k:Nat} {cur:Array Value} {t:TypeId},w.heap[k]?=some (.cells cur t (0,0))→t≠228→t≠45→¬ (k=b∨onB G.wa k):=fun hk' h1 h2 hor=>by
  rcases hor with e | hs
  ·exact ty_ne hk' hcb h1 e
  ·obtain ⟨_,e⟩:=a02 h.nd.wo.own hs
   exact ty_ne hk' e h2 rfl
 have hvec:∀ f',VecAt w g.n f'→VecAt w' g.n f':=fun f' hf'=>hf'.alike hG.rest (fun k hk'=>by
  obtain ⟨c,e⟩:=hf'.block hk'
  exact hoff e (by decide) (by decide))
 have o:=hG.others
 have hta:∀ k,onB G.ta k→¬ (k=b∨onB G.wa k):=fun k hk' hor=>by
  obtain ⟨c,e⟩:=a02 h.nd.tt.own hk'
  rcases hor with rfl | hs
  ·exact ty_ne e hcb (by decide) rfl
  ·exact h.wt k hs hk'
 have hfv:∀ f'∈G.fs++[f],VecAt w g.n f'∧∀ k,onB f'.ad k→¬ onB G.ha k:=fun f' hf'=>by
  rcases List.mem_append.1 hf' with hf' | hf'
  ·exact ⟨h.fv f' hf',h.nd.fh f' hf'⟩
  ·rw [List.mem_singleton.1 hf'];exact ⟨hv,hh⟩
 have hl:(G.fs++[f]).length=G.fs.length+1:=by simp
 refine ⟨{ G with wa:=wa',wcap:=wcap',fs:=G.fs++[f] },⟨⟨o _ _ (by decide) h.nd.c0,o _ _ (by decide) h.nd.c1,o _ _ (by decide) h.nd.c2,o _ _ (by decide) h.nd.c3,o _ _ (by decide) h.nd.c4,?_,o _ _ (by decide) h.nd.c6,o _ _ (by decide) h.nd.c7,hG.ty,⟨rfl,?_⟩,?_,?_,?_,h.nd.ts,fun f' hf'=>(hvec f' (hfv f' hf').1).ints,fun f' hf'=>(hvec f' (h.sv f' hf')).ints,fun f' hf'=>(hfv f' hf').2,h.nd.sh,fun i hi=>?_⟩,fun f' hf'=>?_,fun f' hf'=>hvec f' (hfv f' hf').1,fun f' hf'=>hvec f' (h.sv f' hf'),fun k hk' hs=>?_⟩,rfl,rfl,rfl,fun k hk'=>?_⟩
 ·rw [hl];exact e5
 ·rw [hl];exact hown
 ·exact a07 h.nd.ho hG.rest (fun k hk'=>by
   obtain ⟨c,e⟩:=a02 h.nd.ho hk'
   exact hoff e (by decide) (by decide))
 ·exact h.nd.tt.alike hG.rest (fun k off e=>hta k ⟨off,e⟩)
 ·rw [List.map_append,h.nd.ws];rfl
 ·rw [hl]
  have:=h.nd.hin i hi
  omega
 ·rcases List.mem_append.1 hf' with hf' | hf'
  ·exact h.kd f' hf'
  ·rw [List.mem_singleton.1 hf'];exact hk
 ·rcases hnew k hk' with h' | h'
  ·exact h.wt k h' hs
  ·obtain ⟨_,e⟩:=a02 h.nd.tt.own hs
   have:=lt_of_some e
   omega
 ·rcases hk' with rfl | hk' | hk' | hk' | ⟨f',hf',hk'⟩ | ⟨f',hf',hk'⟩
  ·exact Or.inl (Or.inl rfl)
  ·rcases hnew k hk' with h' | h'
   ·exact Or.inl (Or.inr (Or.inl h'))
   ·exact Or.inr (Or.inr h')
  ·exact Or.inl (Or.inr (Or.inr (Or.inl hk')))
  ·exact Or.inl (Or.inr (Or.inr (Or.inr (Or.inl hk'))))
  ·rcases List.mem_append.1 hf' with hf' | hf'
   ·exact Or.inl (Or.inr (Or.inr (Or.inr (Or.inr (Or.inl ⟨f',hf',hk'⟩)))))
   ·rw [List.mem_singleton.1 hf'] at hk';exact Or.inr (Or.inl hk')
  ·exact Or.inl (Or.inr (Or.inr (Or.inr (Or.inr (Or.inr ⟨f',hf',hk'⟩)))))
theorem RMem.state (h:RMem w b g p r G) {f:Fr} (hG:Grew w w' b 7 45 7 G.ta (G.ss.length+1) (frow g.n (G.ss++[f]))) (hv:VecAt w g.n f) (hh:∀ k,onB f.ad k→¬ onB G.ha k) :
  ∃ G',RMem w' b g p { r with ts:=r.ts++[(f.frm,f.vec)] } G'∧G'.fs=G.fs∧G'.ss=G.ss++[f]∧∀ k,G'.foot b k→G.foot b k∨onB f.ad k∨w.heap.size≤k:=by
 obtain ⟨ta',tcap',e7,hown,hnew⟩:=hG.how
 obtain ⟨cb,hcb⟩:=h.nd.ty
 have hoff:∀ {k:Nat} {cur:Array Value} {t:TypeId},w.heap[k]?=some (.cells cur t (0,0))→t≠228→t≠45→¬ (k=b∨onB G.ta k):=fun hk' h1 h2 hor=>by
  rcases hor with e | hs
  ·exact ty_ne hk' hcb h1 e
  ·obtain ⟨_,e⟩:=a02 h.nd.tt.own hs
   exact ty_ne hk' e h2 rfl
 have hvec:∀ f',VecAt w g.n f'→VecAt w' g.n f':=fun f' hf'=>hf'.alike hG.rest (fun k hk'=>by
  obtain ⟨c,e⟩:=hf'.block hk'
  exact hoff e (by decide) (by decide))
 have o:=hG.others
 have hwa:∀ k,onB G.wa k→¬ (k=b∨onB G.ta k):=fun k hk' hor=>by
  obtain ⟨c,e⟩:=a02 h.nd.wo.own hk'
  rcases hor with rfl | hs
  ·exact ty_ne e hcb (by decide) rfl
  ·exact h.wt k hk' hs
 have hsv:∀ f'∈G.ss++[f],VecAt w g.n f'∧∀ k,onB f'.ad k→¬ onB G.ha k:=fun f' hf'=>by
  rcases List.mem_append.1 hf' with hf' | hf'
  ·exact ⟨h.sv f' hf',h.nd.sh f' hf'⟩
  ·rw [List.mem_singleton.1 hf'];exact ⟨hv,hh⟩
 have hl:(G.ss++[f]).length=G.ss.length+1:=by simp
 refine ⟨{ G with ta:=ta',tcap:=tcap',ss:=G.ss++[f] },⟨⟨o _ _ (by decide) h.nd.c0,o _ _ (by decide) h.nd.c1,o _ _ (by decide) h.nd.c2,o _ _ (by decide) h.nd.c3,o _ _ (by decide) h.nd.c4,o _ _ (by decide) h.nd.c5,o _ _ (by decide) h.nd.c6,?_,hG.ty,?_,?_,⟨rfl,?_⟩,h.nd.ws,?_,fun f' hf'=>(hvec f' (h.fv f' hf')).ints,fun f' hf'=>(hvec f' (hsv f' hf').1).ints,h.nd.fh,fun f' hf'=>(hsv f' hf').2,h.nd.hin⟩,h.kd,fun f' hf'=>hvec f' (h.fv f' hf'),fun f' hf'=>hvec f' (hsv f' hf').1,fun k hk' hs=>?_⟩,rfl,rfl,fun k hk'=>?_⟩
 ·rw [hl];exact e7
 ·exact h.nd.wo.alike hG.rest (fun k off e=>hwa k ⟨off,e⟩)
 ·exact a07 h.nd.ho hG.rest (fun k hk'=>by
   obtain ⟨c,e⟩:=a02 h.nd.ho hk'
   exact hoff e (by decide) (by decide))
 ·rw [hl];exact hown
 ·rw [List.map_append,h.nd.ts];rfl
 ·rcases hnew k hs with h' | h'
  ·exact h.wt k hk' h'
  ·obtain ⟨_,e⟩:=a02 h.nd.wo.own hk'
   have:=lt_of_some e
   omega
 ·rcases hk' with rfl | hk' | hk' | hk' | ⟨f',hf',hk'⟩ | ⟨f',hf',hk'⟩
  ·exact Or.inl (Or.inl rfl)
  ·exact Or.inl (Or.inr (Or.inl hk'))
  ·exact Or.inl (Or.inr (Or.inr (Or.inl hk')))
  ·rcases hnew k hk' with h' | h'
   ·exact Or.inl (Or.inr (Or.inr (Or.inr (Or.inl h'))))
   ·exact Or.inr (Or.inr h')
  ·exact Or.inl (Or.inr (Or.inr (Or.inr (Or.inr (Or.inl ⟨f',hf',hk'⟩)))))
  ·rcases List.mem_append.1 hf' with hf' | hf'
   ·exact Or.inl (Or.inr (Or.inr (Or.inr (Or.inr (Or.inr ⟨f',hf',hk'⟩)))))
   ·rw [List.mem_singleton.1 hf'] at hk';exact Or.inr (Or.inl hk')
theorem RMem.hears (h:RMem w b g p r G) {i:Nat} (hG:Grew w w' b 6 3 1 G.ha (r.hd.length+1) (hrow (r.hd++[i]))) (hi:i<G.fs.length) :
  ∃ G',RMem w' b g p { r with hd:=r.hd++[i] } G'∧G'.fs=G.fs∧G'.ss=G.ss∧∀ k,G'.foot b k→G.foot b k∨w.heap.size≤k:=by
 obtain ⟨ha',hcap',e6,hown,hnew⟩:=hG.how
 obtain ⟨cb,hcb⟩:=h.nd.ty
 have hfr:∀ {k:Nat} {cur:Array Value},w.heap[k]?=some (.cells cur 45 (0,0))→¬ (k=b∨onB G.ha k):=fun hk' hor=>by
  rcases hor with e | hs
  ·exact ty_ne hk' hcb (by decide) e
  ·obtain ⟨_,e⟩:=a02 h.nd.ho hs
   exact ty_ne hk' e (by decide) rfl
 have hvec:∀ f',VecAt w g.n f'→(∀ k,onB f'.ad k→¬ onB G.ha k)→VecAt w' g.n f'∧∀ k,onB f'.ad k→¬ onB ha' k:=fun f' hf' hn=>⟨hf'.alike hG.rest (fun k hk' hor=>by
  obtain ⟨c,e⟩:=hf'.block hk'
  rcases hor with e' | hs
  ·exact ty_ne e hcb (by decide) e'
  ·exact hn k hk' hs),fun k hk' hs=>by
  obtain ⟨c,e⟩:=hf'.block hk'
  rcases hnew k hs with h' | h'
  ·exact hn k hk' h'
  ·have:=lt_of_some e
   omega⟩
 have o:=hG.others
 have hl:(r.hd++[i]).length=r.hd.length+1:=by simp
 have hf1:=fun f' (hf':f'∈G.fs)=>hvec f' (h.fv f' hf') (h.nd.fh f' hf')
 have hs1:=fun f' (hf':f'∈G.ss)=>hvec f' (h.sv f' hf') (h.nd.sh f' hf')
 refine ⟨{ G with ha:=ha',hcap:=hcap' },⟨⟨o _ _ (by decide) h.nd.c0,o _ _ (by decide) h.nd.c1,o _ _ (by decide) h.nd.c2,o _ _ (by decide) h.nd.c3,o _ _ (by decide) h.nd.c4,o _ _ (by decide) h.nd.c5,?_,o _ _ (by decide) h.nd.c7,hG.ty,?_,?_,?_,h.nd.ws,h.nd.ts,fun f' hf'=>(hf1 f' hf').1.ints,fun f' hf'=>(hs1 f' hf').1.ints,fun f' hf'=>(hf1 f' hf').2,fun f' hf'=>(hs1 f' hf').2,fun j hj=>?_⟩,h.kd,fun f' hf'=>(hf1 f' hf').1,fun f' hf'=>(hs1 f' hf').1,h.wt⟩,rfl,rfl,fun k hk'=>?_⟩
 ·show w'.cell? _=some (.slice ha' (r.hd++[i]).length hcap')
  rw [hl];exact e6
 ·exact h.nd.wo.alike hG.rest (fun k off e=>by
   obtain ⟨c,e'⟩:=a02 h.nd.wo.own ⟨off,e⟩
   exact hfr e')
 ·show w'.ownsRow 0 3 1 (.slice ha' (r.hd++[i]).length hcap') (r.hd++[i]).length (hrow (r.hd++[i]))
  rw [hl];exact hown
 ·exact h.nd.tt.alike hG.rest (fun k off e=>by
   obtain ⟨c,e'⟩:=a02 h.nd.tt.own ⟨off,e⟩
   exact hfr e')
 ·rcases List.mem_append.1 hj with hj | hj
  ·exact h.nd.hin j hj
  ·rw [List.mem_singleton.1 hj];exact hi
 ·rcases hk' with rfl | hk' | hk' | hk' | hk' | hk'
  ·exact Or.inl (Or.inl rfl)
  ·exact Or.inl (Or.inr (Or.inl hk'))
  ·rcases hnew k hk' with h' | h'
   ·exact Or.inl (Or.inr (Or.inr (Or.inl h')))
   ·exact Or.inr h'
  ·exact Or.inl (Or.inr (Or.inr (Or.inr (Or.inl hk'))))
  ·exact Or.inl (Or.inr (Or.inr (Or.inr (Or.inr (Or.inl hk')))))
  ·exact Or.inl (Or.inr (Or.inr (Or.inr (Or.inr (Or.inr hk')))))
end
end Go.Proofs.YtabecbjfamphbaaGreatDoor
