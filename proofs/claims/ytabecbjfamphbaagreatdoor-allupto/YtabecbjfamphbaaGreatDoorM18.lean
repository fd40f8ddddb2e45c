/- A part of the proof. -/
import Derived.Test.YtabecbjfamphbaaGreatDoorM17
import Derived.OwnWalk
namespace Go.Proofs.YtabecbjfamphbaaGreatDoor
open Go.RowKit Go.Stop Go.Extern
set_option maxRecDepth 100000
def sayK (y l W B L:Int) (k:Nat):Nat:=if B<k then 2 else if L≤y then 3 else if W≤y-l then 4 else 0
set_option maxHeartbeats 1000000 in
theorem ah3 (A:Nat→Addr) (b n:Nat) (W B L:Int) (p gv:Nat) (rows:List Nat) (vs:List (List Int)) (body:ByteArray) (hp:p<n) (hn:n≤8) (w:World) (hw:Sents w A) (hb:NB w b n W B L p gv) (hv:NVw w gv n rows vs) (hcb:0≤vw vs p p∧vw vs p p≤65535) (hlb:0≤lowTo vs L p n∧lowTo vs L p n≤65535) :
  Calls Tryz.prog 147 #[.pointer (some ⟨b,0,none⟩),.string body] w fun e w'=>(∃ v,e=.returned v∧a0l A v (sayK (vw vs p p) (lowTo vs L p n) W B L body.size))∧Below w.heap.size w w':=by
 have HI:Hid (∀ k s,1≤k→k≤8→a0l A (.iface 208 (.agg #[.string s,.iface 298 (.pointer (some (A k)))])) k):=fun k s h1 h8=>⟨Or.inr (Or.inl ⟨h1,h8,s,rfl⟩)⟩
 have HK:Hid (sayK (vw vs p p) (lowTo vs L p n) W B L body.size=if B<body.size then 2 else if L≤vw vs p p then 3 else if W≤vw vs p p-lowTo vs L p n then 4 else 0):=rfl
 have HC:Hid (∀ x,Below w.heap.size w x→x.cell? ⟨1,0,none⟩=some (.iface 298 (.pointer (some (A 2))))∧x.cell? ⟨2,0,none⟩=some (.iface 298 (.pointer (some (A 3))))∧x.cell? ⟨3,0,none⟩=some (.iface 298 (.pointer (some (A 4))))∧x.cell? ⟨b,1,none⟩=some (.int .i64 W)∧x.cell? ⟨b,2,none⟩=some (.int .i64 B)∧x.cell? ⟨b,3,none⟩=some (.int .i64 L)∧x.cell? ⟨b,4,none⟩=some (.int .i64 (p:Int))):=fun x hx=>by
  have h:=hw.below hx
  have hn:=hb.alike (E:=fun _=>False) (Alike.of_below hx _) (fun h=>h)
  exact ⟨h.c 2 (by decide) (by decide),h.c 3 (by decide) (by decide),h.c 4 (by decide) (by decide),hn.c1,hn.c2,hn.c3,hn.c4⟩
 have HLw:Hid (∀ x,Below w.heap.size w x→Calls Tryz.prog 188 #[.pointer (some ⟨b,0,none⟩),.int .i64 (p:Int)] x fun e w'=>e=.returned (.int .i64 (lowTo vs L p n))∧w'=x):=fun x hx=>an2 b n W B L p gv rows vs p x (hb.alike (E:=fun _=>False) (Alike.of_below hx _) (fun h=>h)) (hv.alike (E:=fun _=>False) (Alike.of_below hx _) (fun h=>h) (fun _ _ h=>h)) hp hn
 have HCl:Hid (Calls Tryz.prog 102 #[.pointer (some ⟨b,0,none⟩)] w.drew fun e w'=>e=.returned (.slice (some ⟨rows.getD p 0,0,none⟩) n n)∧∃ m,w'=w.drew.drewN m):=a2x b n W B L p gv rows vs w.drew (hb.alike (E:=fun _=>False) (Alike.of_below (Below.refl _ _).drew _) (fun h=>h)) (hv.alike (E:=fun _=>False) (Alike.of_below (Below.refl _ _).drew _) (fun h=>h) (fun _ _ h=>h)) hp
 have hc:=hv.cell hp hp
 have c4:=hb.c4
 have hpi:(p:Int)<(n:Int):=by omega
 have hwr:IntKind.i64.wrap (vw vs p p-lowTo vs L p n)=vw vs p p-lowTo vs L p n:=by rw [IntKind.wrap_i64];omega
 clear hw hb hv
 generalize sayK (vw vs p p) (lowTo vs L p n) W B L body.size=res at *
 generalize hgp:rows.getD p 0=gp at *
 generalize hvo:vw vs p p=y at *
 generalize hlo:lowTo vs L p n=lw at *
 go_enter Tryz.func147,Tryz.ntmps147
 go_wp2_with fail
 go_region_held3 (fun x=>x.cell? ⟨b,4,none⟩=some (.int .i64 (p:Int))∧x.cell? ⟨gp,p,none⟩=some (.int .i64 y)) (first|(exact ⟨c4,hc⟩) | go_keep) (first|(go_at_call 102;refine HCl.out.mono ?_;rintro e w' ⟨rfl,m,rfl⟩))
 have HY:Hid (Below w.heap.size w (w.drewN (1+m))):=below_drewN (Below.refl _ _) _
 clear hc c4 HCl
 rename_i hHeld
 clear hHeld
 generalize w.drewN (1+m)=Y at *
 obtain ⟨g2,g3,g4,c1,c2,c3,c4⟩:=HC.out Y HY.out
 by_cases h1:B<(body.size:Int)
 ·have HR:Hid (res=2):=HK.out.trans (if_pos h1)
  clear HK
  go_wp2_with (go_at_call 90;refine (a0r _ _ _).mono ?_;rintro e w' ⟨rfl,rfl⟩)
  go_ret
  exact ⟨⟨_,rfl,by rw [show res=2 from HR.out];exact HI.out 2 _ (by decide) (by decide)⟩,HY.out⟩
 ·by_cases h2:L≤y
  ·have HR:Hid (res=3):=HK.out.trans ((if_neg h1).trans (if_pos h2))
   clear HK
   go_wp2_with (go_at_call 90;refine (a0r _ _ _).mono ?_;rintro e w' ⟨rfl,rfl⟩)
   go_ret
   exact ⟨⟨_,rfl,by rw [show res=3 from HR.out];exact HI.out 3 _ (by decide) (by decide)⟩,HY.out⟩
  ·by_cases h3:W≤y-lw
   ·have HR:Hid (res=4):=HK.out.trans ((if_neg h1).trans ((if_neg h2).trans (if_pos h3)))
    clear HK
    go_wp2_with fail
    go_region_held3 (fun x=>x.cell? ⟨b,4,none⟩=some (.int .i64 (p:Int))∧x.cell? ⟨b,1,none⟩=some (.int .i64 W)) (first|(exact ⟨c4,c1⟩) | go_keep) (first|(go_at_call 188;refine (HLw.out _ HY.out.drew).mono ?_;rintro e w' ⟨rfl,rfl⟩))
    go_wp2_with (go_at_call 90;refine (a0r _ _ _).mono ?_;rintro e w' ⟨rfl,rfl⟩)
    go_ret
    exact ⟨⟨_,rfl,by rw [show res=4 from HR.out];exact HI.out 4 _ (by decide) (by decide)⟩,HY.out.drew⟩
   ·have HR:Hid (res=0):=HK.out.trans ((if_neg h1).trans ((if_neg h2).trans (if_neg h3)))
    clear HK
    go_wp2_with fail
    go_region_held3 (fun x=>x.cell? ⟨b,4,none⟩=some (.int .i64 (p:Int))∧x.cell? ⟨b,1,none⟩=some (.int .i64 W)) (first|(exact ⟨c4,c1⟩) | go_keep) (first|(go_at_call 188;refine (HLw.out _ HY.out.drew).mono ?_;rintro e w' ⟨rfl,rfl⟩))
    go_wp2_with fail
    go_ret
    exact ⟨⟨_,rfl,by rw [show res=0 from HR.out];exact ⟨Or.inl ⟨rfl,rfl⟩⟩⟩,HY.out.drew⟩
def Fr.fm (f:Fr):Fm:=⟨f.org,f.seq,f.low,f.vec,f.body⟩
theorem a6k {a f:Fr}:ordF a f<0↔Bef a.fm f.fm:=by
 unfold ordF ordI cmpI Bef Fr.fm
 simp only
 split<;>(repeat' split)<;>omega
theorem af5 {a f:Fr}:ordF a f=0↔a.org=f.org∧a.seq=f.seq:=by
 unfold ordF ordI cmpI
 split<;>(repeat' split)<;>omega
theorem au5 {fs:List Fr} (h:(fs.map Fr.fm).Pairwise Bef) (f:Fr):∃ m,Place fs f m:=by
 induction fs with
 | nil=>exact ⟨0,Nat.le_refl _,fun i a hi=>by simp at hi,fun i a hi=>by simp at hi⟩
 | cons a fs ih =>
  rw [List.map_cons] at h
  obtain ⟨h1,h2⟩:=List.pairwise_cons.1 h
  by_cases hb:Bef a.fm f.fm
  ·obtain ⟨m,hm⟩:=ih h2
   refine ⟨m+1,by have:=hm.le;simp;omega,fun i x hi him=>?_,fun i x hi him=>?_⟩
   ·cases i with
    | zero=>simp at hi;subst hi;exact a6k.2 hb
    | succ i=>simp at hi;exact hm.lo i x hi (by omega)
   ·cases i with
    | zero=>omega
    | succ i=>simp at hi;exact hm.hi i x hi (by omega)
  ·refine ⟨0,Nat.zero_le _,fun i x _ hi=>absurd hi (Nat.not_lt_zero _),fun i x hi _=>?_⟩
   have hx:¬ Bef x.fm f.fm:=by
    rcases List.mem_cons.1 (List.mem_of_getElem? hi) with rfl | hx
    ·exact hb
    ·exact fun hc=>hb ((h1 x.fm (List.mem_map_of_mem hx)).trans hc)
   rw [←a6k] at hx
   omega
theorem ae8 {fs:List Fr} {f:Fr} {m:Nat} (hm:Place fs f m):(insF fs m f).map Fr.fm=insM (fs.map Fr.fm) f.fm:=by
 induction fs generalizing m with
 | nil =>
  have:=hm.le
  simp at this
  subst this
  rfl
 | cons a fs ih =>
  rw [List.map_cons]
  unfold insM
  cases m with
  | zero =>
   have:=hm.hi 0 a rfl (Nat.le_refl _)
   rw [if_neg (fun c=>by rw [←a6k] at c;omega)]
   rfl
  | succ m =>
   have h0:=hm.lo 0 a rfl (by omega)
   rw [if_pos (a6k.1 h0)]
   rw [←ih (m:=m) ⟨by have:=hm.le;simp at this;omega,fun i x hi him=>hm.lo (i+1) x hi (by omega),fun i x hi him=>hm.hi (i+1) x hi (by omega)⟩]
   rfl
theorem a4u {fs:List Fr} {f a:Fr} {m:Nat}:a∈insF fs m f→a=f∨a∈fs:=by
 unfold insF
 intro h
 rcases List.mem_append.1 h with h | h
 ·exact Or.inr (List.mem_of_mem_take h)
 ·rcases List.mem_cons.1 h with h | h
  ·exact Or.inl h
  ·exact Or.inr (List.mem_of_mem_drop h)
theorem b2i {fs:List Fr} (h:(fs.map Fr.fm).Pairwise Bef) {f:Fr} {m:Nat} (hm:Place fs f m):foundAt fs f m=true↔∃ a∈fs.map Fr.fm,a.org=f.org∧a.seq=f.seq:=by
 unfold foundAt
 constructor
 ·intro hf
  cases e:fs[m]? with
  | none=>rw [e] at hf;cases hf
  | some a =>
   rw [e] at hf
   have:=af5.1 (of_decide_eq_true hf)
   exact ⟨a.fm,List.mem_map_of_mem (List.mem_of_getElem? e),this⟩
 ·rintro ⟨_,ha,hk⟩
  obtain ⟨a,ha',rfl⟩:=List.mem_map.1 ha
  obtain ⟨i,hi⟩:=List.mem_iff_getElem?.1 ha'
  have hz:ordF a f=0:=af5.2 hk
  have hmi:m≤i:=by
   rcases Nat.lt_or_ge i m with h' | h'
   ·have:=hm.lo i a hi h';omega
   ·exact h'
  rcases Nat.lt_or_ge m i with hlt | hge
  ·exfalso
   have hil:=(List.getElem?_eq_some_iff.1 hi).1
   obtain ⟨x,hx⟩:∃ x,fs[m]?=some x:=⟨fs[m]'(by omega),List.getElem?_eq_getElem _⟩
   have h1:=hm.hi m x hx (Nat.le_refl _)
   have h2:Bef x.fm a.fm:=by
    have:=List.pairwise_iff_getElem.1 h m i (by simp;omega) (by simp;omega) hlt
    rw [List.getElem_map,List.getElem_map] at this
    rw [(List.getElem?_eq_some_iff.1 hx).2,(List.getElem?_eq_some_iff.1 hi).2] at this
    exact this
   have h3:Bef x.fm f.fm:=by
    have e1:a.fm.org=f.fm.org:=hk.1
    have e2:a.fm.seq=f.fm.seq:=hk.2
    unfold Bef at *
    omega
   have:=a6k.2 h3
   omega
  ·obtain rfl:i=m:=by omega
   rw [hi]
   exact decide_eq_true hz
theorem a8k (fs:List Fr) (g:Gr) (vs:List (List Int)):(keptF (gone vs g.L g.n) fs).map Fr.fm=a2p g vs (fs.map Fr.fm):=by
 unfold keptF a2p
 rw [List.filter_map]
 rfl
structure a0m (w:World) (b:Nat) (g:Gr) (p:Nat) (s:NS) (F:Nat→Prop):Prop where
 how:∃ G fs,Nod w b g.n g.W g.B g.L p G s.vs fs s.hs∧fs.map Fr.fm=s.st∧(∀ f∈fs,f.kind=1∧f.frm=p)∧∀ k,F k↔G.foot b fs k
theorem a0m.alike {w w':World} {b:Nat} {g:Gr} {p:Nat} {s:NS} {F E:Nat→Prop} (h:a0m w b g p s F) (ha:Alike w w' E) (hE:∀ k,F k→¬ E k):a0m w' b g p s F:=by
 obtain ⟨G,fs,h1,h2,h3,h4⟩:=h
 exact ⟨G,fs,h1.alike ha (fun k hk=>hE k ((h4 k).2 hk)),h2,h3,h4⟩
theorem a0m.low {w w':World} {b:Nat} {g:Gr} {p:Nat} {s:NS} {F:Nat→Prop} (h:a0m w b g p s F) (hb:Below w.heap.size w w'):a0m w' b g p s F:=h.alike (Alike.of_below hb (fun _=>False)) (fun _ _ h=>h)
theorem a0m.lt {w:World} {b:Nat} {g:Gr} {p:Nat} {s:NS} {F:Nat→Prop} (h:a0m w b g p s F) {k:Nat} (hk:F k):k<w.heap.size:=by
 obtain ⟨G,fs,h1,_,_,h4⟩:=h
 exact h1.a1k ((h4 k).1 hk)
theorem Pks.alike {w w':World} {base:Nat} {v:Value} {ps:List Pk} {E:Nat→Prop} (h:Pks w base v ps) (ha:Alike w w' E) (hE:∀ k,base≤k→k<w.heap.size→¬ E k):Pks w' base v ps:=by
 refine ⟨h.own.1,?_⟩
 rcases h.own.2 with h' | ⟨g',cap',cur,he,hg,hh,hr⟩
 ·exact Or.inl h'
 ·exact Or.inr ⟨g',cap',cur,he,hg,(ha.block g' (lt_of_some hh) (hE g' hg (lt_of_some hh))).trans hh,hr⟩
def textM (g:Gr) (p:Nat) (f:Fm):ByteArray:=txt (encR g.n g.W g.B g.L 1 p f.org f.seq f.low f.vec f.body).1
theorem a8t {g:Gr} {p:Nat} {f:Fr} (h1:f.kind=1) (h2:f.frm=p):textOf g.n g.W g.B g.L f=textM g p f.fm:=by
 unfold textOf textM Fr.fm
 rw [h1,h2]
def NS.sayK (g:Gr) (p:Nat) (s:NS) (k:Nat):Nat:=Proofs.YtabecbjfamphbaaGreatDoor.sayK (vw s.vs p p) (g.low s.vs p) g.W g.B g.L k
def NS.sayL (g:Gr) (p:Nat) (f:Fm):List Pk:=passL (textM g p f) p p p g.n
structure Did (w w':World) (b:Nat) (g:Gr) (p:Nat) (F:Nat→Prop) (s:NS) (v:Value) (ps:List Pk):Prop where
 node:∃ F',a0m w' b g p s F'∧∀ k,F' k→F k∨w.heap.size≤k
 rest:Alike w w' F
 pks:Pks w' w.heap.size v ps
theorem Did.low {w w1 w2:World} {b:Nat} {g:Gr} {p:Nat} {F:Nat→Prop} {s:NS} {v:Value} {ps:List Pk} (h:Did w w1 b g p F s v ps) (hb:Below w1.heap.size w1 w2):Did w w2 b g p F s v ps:=by
 obtain ⟨⟨F',h1,h2⟩,h3,h4⟩:=h
 exact ⟨⟨F',h1.low hb,h2⟩,h3.trans (Alike.of_below hb (fun _=>False)) (fun _ _ h=>h.elim),h4.alike (Alike.of_below hb (fun _=>False)) (fun _ _ _ h=>h)⟩
theorem Did.none {w w':World} {b:Nat} {g:Gr} {p:Nat} {F:Nat→Prop} {s:NS} (h:a0m w b g p s F) (hb:Below w.heap.size w w'):Did w w' b g p F s (.slice none 0 0) []:=
 ⟨⟨F,h.low hb,fun _ h=>Or.inl h⟩,Alike.of_below hb _,Pks.nil _ _⟩
theorem Did.sl {w w':World} {b:Nat} {g:Gr} {p:Nat} {F:Nat→Prop} {s:NS} {v:Value} {ps:List Pk} {A:Nat→Addr} {base:Nat} (h:Did w w' b g p F s v ps) (hw:Sl w A base) (hF:∀ k,F k→base≤k):Sl w' A base:=hw.alike h.rest (fun k hk hc=>by have:=hF k hc;omega)
structure SR where
 k:Nat
 q:Int
 ps:List Pk
 s:NS
def NS.say (g:Gr) (p:Nat) (s:NS) (body:ByteArray):SR:=if s.sayK g p body.size=0 then ⟨0,vw s.vs p p+1,NS.sayL g p (s.word g p body),s.said g p (s.word g p body)⟩ else ⟨s.sayK g p body.size,0,[],s⟩
theorem a8c {g:Gr} {p:Nat} {s:NS} {k:Nat} (h:s.sayK g p k=0):(k:Int)≤g.B∧vw s.vs p p<g.L∧vw s.vs p p-g.low s.vs p<g.W:=by
 unfold NS.sayK Proofs.YtabecbjfamphbaaGreatDoor.sayK at h
 split at h
 ·cases h
 ·split at h
  ·cases h
  ·split at h
   ·cases h
   ·omega
set_option maxHeartbeats 2000000 in
theorem aq8 (A:Nat→Addr) (base b:Nat) (g:Gr) (p:Nat) (s:NS) (F:Nat→Prop) (body:ByteArray) (hg:g.Ok) (hp:p<g.n) (hs:s.Ok g p) (w:World) (hw:Sl w A base) (hF:∀ k,F k→base≤k) (h:a0m w b g p s F) :
  Calls Tryz.prog 93 #[.pointer (some ⟨b,0,none⟩),.string body] w fun e w'=>∃ q v er,e=.returned (.tuple #[.int .i64 q,v,er])∧a0l A er (s.sayK g p body.size) ∧
   (s.sayK g p body.size≠0→q=0∧v=.slice none 0 0∧Below w.heap.size w w') ∧
   (s.sayK g p body.size=0→q=vw s.vs p p+1∧Pks w' w.heap.size v (NS.sayL g p (s.word g p body))∧Alike w w' F∧∃ F',a0m w' b g p (s.said g p (s.word g p body)) F'∧∀ k,F' k→F k∨w.heap.size≤k):=by
 obtain ⟨G,fs,hN,hst,hkf,hFt⟩:=h.how
 have hcb:=hs.clk.bd p p hp hp
 have hL:=hg.L
 have hlb:=hs.clk.b1m hg p hp
 have hsh:=hs.short hg
 have hhl:=hs.clk.short hg hp
 have hn8:=hg.n.2
 have HBD:Hid (∀ q,q<g.n→0≤vw s.vs p q∧vw s.vs p q≤65535):=fun q hq=>by have:=hs.clk.bd p q hp hq;omega
 have hlen:fs.length=s.st.length:=by rw [←hst,List.length_map]
 have HN:Hid _:=hN
 have HW:Hid _:=hw
 have HS:Hid _:=hs
 have HFt:Hid _:=hFt
 have HF:Hid _:=hF
 have HST:Hid _:=hst
 have HKF:Hid _:=hkf
 have HKe:Hid (s.sayK g p body.size=Proofs.YtabecbjfamphbaaGreatDoor.sayK (vw s.vs p p) (lowTo s.vs g.L p g.n) g.W g.B g.L body.size):=rfl
 clear hN hw hs hFt hF hst hkf h
 generalize hK:s.sayK g p body.size=K at *
 go_enter Tryz.func93,Tryz.ntmps93
 go_wp2_with fail
 refine (ah3 A b g.n g.W g.B g.L p G.gv G.rows s.vs body hp hn8 w HW.out.s HN.out.nb HN.out.nv ⟨hcb.1,by omega⟩ ⟨hlb.1,Int.le_trans hlb.2 hL.2⟩).mono ?_
 rintro e w1 ⟨⟨v1,rfl,hv1⟩,hb1⟩
 rw [←HKe.out] at hv1
 have HV1:Hid _:=hv1
 have HB1:Hid _:=hb1
 clear hb1
 by_cases hK0:K=0
 ·obtain rfl:v1=.nilIface:=by
   rcases hv1.how with ⟨h,_⟩ | ⟨h,_⟩ | ⟨h,_⟩
   ·exact h
   ·omega
   ·omega
  have HK:Hid _:=HKe.out.symm.trans hK0
  have HZ0:Hid _:=a8c (hK.trans hK0)
  clear hv1
  go_wp2_with fail
  have HN1:Hid _:=HN.out.low HB1.out
  have hbs:body.size≤1000:=by
   have:=HK.out
   unfold Proofs.YtabecbjfamphbaaGreatDoor.sayK at this
   have hB:=hg.B
   split at this
   ·cases this
   ·omega
  refine (am0 b g.n g.W g.B g.L p G.gv G.rows s.vs body hp hn8 hbs w1 HN1.out.nb HN1.out.nv ⟨hcb.1,by omega⟩).mono ?_
  rintro e w2 ⟨⟨vg,vcap,rfl,hown⟩,hb2⟩
  obtain ⟨f,hfe⟩:∃ f:Fr,f=⟨1,p,p,vw s.vs p p+1,lowTo s.vs g.L p g.n,some ⟨vg,0,none⟩,vcap,s.vs.getD p [],body⟩:=⟨_,rfl⟩
  rw [←hfe]
  have HV2:Hid (VecAt w2 g.n f∧∀ k,onB f.ad k→w1.heap.size≤k):=by
   rw [hfe]
   refine ⟨⟨a3b hown,?_⟩,?_⟩
   ·rcases hown.2 with ⟨h,_⟩ | ⟨g',c',cur,h,_,hh,_⟩
    ·cases h
    ·cases h;exact ⟨vg,cur,rfl,hh⟩
   ·rintro k ⟨off,e⟩
    cases e
    rcases hown.2 with ⟨h,_⟩ | ⟨g',c',cur,h,h',_⟩
    ·cases h
    ·cases h;exact h'
  have HFM:Hid (f.fm=s.word g p body∧f.kind=1∧f.frm=p):=by rw [hfe];exact ⟨rfl,rfl,rfl⟩
  have HOR:Hid (f.org=p):=by show _=_;rw [hfe]
  have HSQ:Hid (f.seq=vw s.vs p p+1):=by show _=_;rw [hfe]
  have HBS:Hid (f.body.size≤maxLen):=by rw [hfe];show body.size≤_;unfold maxLen;omega
  have HSl2:Hid (Sl w2 A base):=(HW.out.low HB1.out).low hb2
  have HN2:Hid _:=HN1.out.low hb2
  have HB2:Hid (Below w.heap.size w w2):=bthen HB1.out hb2
  obtain ⟨m,hm⟩:=au5 (fs:=fs) (by rw [HST.out];exact HS.out.sorted) f
  have HM:Hid _:=hm
  have hal:=a00 w2 (.cells #[.int .i64 f.kind,.int .i64 f.frm,.int .i64 f.org,.int .i64 f.seq,.int .i64 f.low,.slice f.ad g.n f.cap,.string f.body] 45)
  have HS7:Hid _:=a05 w2 (.int .i64 f.kind) (.int .i64 f.frm) (.int .i64 f.org) (.int .i64 f.seq) (.int .i64 f.low) (.slice f.ad g.n f.cap) (.string f.body) 45
  have HBX:Hid _:=bthen HB2.out hal
  have HSlX:Hid _:=HSl2.out.low hal
  have HNX:Hid _:=HN2.out.low hal
  have HVX:Hid _:=And.intro (HV2.out.1.low hal) HV2.out.2
  have HLT:Hid (∀ k,onB f.ad k→k<w2.heap.size):=fun k hk=>by
   obtain ⟨cur,e⟩:=HV2.out.1.block hk
   exact lt_of_some e
  have HSZ:Hid (w.heap.size≤w1.heap.size∧w1.heap.size≤w2.heap.size):=⟨HB1.out.size,hb2.size⟩
  have HFW:Hid (∀ k,F k→k<w.heap.size):=fun k hk=>HN.out.a1k ((HFt.out k).1 hk)
  have hvrow:∀ k,onB f.ad k→k ∉ G.rows:=fun k hk hm=>by
   have h1:=HV2.out.2 k hk
   have h2:=HN.out.a1k (b:=b) (fs:=fs) (a1z hm)
   have h3:=HB1.out.size
   omega
  have HVR:Hid _:=hvrow
  clear hfe hown hb2 hm HN1 hal hvrow
  unfold Fr.agg
  go_wp2_with fail
  have hzX:w2.heap.size<(w2.alloc (.cells #[.int .i64 f.kind,.int .i64 f.frm,.int .i64 f.org,.int .i64 f.seq,.int .i64 f.low,.slice f.ad g.n f.cap,.string f.body] 45)).heap.size:=by simp
  generalize w2.alloc (.cells #[.int .i64 f.kind,.int .i64 f.frm,.int .i64 f.org,.int .i64 f.seq,.int .i64 f.low,.slice f.ad g.n f.cap,.string f.body] 45)=X at *
  have HZ:Hid (¬ (fun k=>F k∨onB f.ad k) w2.heap.size):=fun hc=>by
   rcases hc with h | h
   ·have:=HFW.out _ h
    have:=HSZ.out
    omega
   ·have:=HLT.out _ h
    omega
  have HT2:Hid _:=NAt.begin (F:=fun k=>F k∨onB f.ad k) HNX.out (fun k hk=>Or.inl ((HFt.out k).2 hk))
  refine (at6 b g.n G.sa fs.length G.scap fs f m X HNX.out.nb.ty HNX.out.c6 HNX.out.fr (by omega) HM.out).mono ?_
  rintro e w3 ⟨rfl,hk3⟩
  obtain ⟨G3,hN3⟩:=HT2.out.kept hk3 (fun a ha=>by
   rcases a4u ha with rfl | ha
   ·exact Or.inr ⟨HVX.out.1,HVR.out,fun k hk=>Or.inl (Or.inr hk)⟩
   ·exact Or.inl ha)
  have HT3:Hid _:=hN3
  have HS73:Hid _:=HS7.out.alike hk3.rest (fun hc=>HT2.out.off hzX HZ.out (a6e _ _ _ _ hc))
  obtain ⟨s0,s1,s2,s3,s4,s5,s6,sz⟩:=HS73.out
  clear hk3 hN3
  go_wp2_with fail
  refine (av7 b g.n g.W g.B g.L p G3.gv G3.rows s.vs G3.ha s.hs.length G3.hcap s.hs f p HOR.out hp hp w3 HT3.out.nod.nb HT3.out.nod.nv HT3.out.nod.c7 HT3.out.nod.wd (by omega)).mono ?_
  rintro e w4 ⟨rfl,ht4,hv4⟩
  obtain ⟨G4,hN4⟩:=HT3.out.took hp HBD.out hp ht4 hv4 (by have:=HSQ.out;have:=HZ0.out.2.1;omega)
  have HT4:Hid _:=hN4
  have HS74:Hid _:=HS73.out.alike ht4.rest (fun hc=>HT3.out.off hzX HZ.out (af9 HT3.out.nod hp _ hc))
  have HSl4:Hid (Sl w4 A base):=HSlX.out.alike hN4.rest (fun k hk hc=>by
   rcases hc with hc | hc
   ·have:=HF.out k hc;omega
   ·have:=HV2.out.2 k hc
    have:=HF.out b ((HFt.out b).2 (a3i _ _ _))
    have:=HFW.out b ((HFt.out b).2 (a3i _ _ _))
    have:=HSZ.out
    omega)
  have c4:=hN4.nod.nb.c4
  clear ht4 hv4 hN4 s0 s1 s2 s3 s4 s5 s6 sz
  obtain ⟨s0,s1,s2,s3,s4,s5,s6,sz⟩:=HS74.out
  have HFI:Hid (f∈insF fs m f):=by show _∈_;unfold insF;simp
  go_wp2_with fail
  have HPO:Hid (∀ x,Below w4.heap.size w4 x→Calls Tryz.prog 151 #[.pointer (some ⟨b,0,none⟩),.agg #[.int .i64 f.kind,.int .i64 f.frm,.int .i64 f.org,.int .i64 f.seq,.int .i64 f.low,.slice f.ad g.n f.cap,.string f.body],.int .i64 (p:Int)] x fun e w'=>(∃ av nv cv,e=.returned (.slice av nv cv)∧Pks w' w4.heap.size (.slice av nv cv) (passL (textOf g.n g.W g.B g.L f) p f.org p g.n))∧Below x.heap.size x w'):=fun x hx=>(a9z (A 1) (A 5) b g.n g.W g.B g.L p G4.gv f p x (HSl4.out.low hx).sent (HT4.out.low hx).nod.nb (((HT4.out.low hx).nod.vec f HFI.out).1.ints) hn8 HBS.out).mono (by
   rintro e w' ⟨⟨v,rfl,hv⟩,hb⟩
   obtain ⟨a,c,rfl⟩:=a01 hv.own
   exact ⟨⟨a,_,c,rfl,hv.mono hx.size⟩,hb⟩)
  have hbz:b<w4.heap.size:=lt_of_cell c4
  go_region_held3 (fun x=>x.cell? ⟨b,4,none⟩=some (.int .i64 (p:Int))∧x.cell? ⟨w2.heap.size,0,none⟩=some (.int .i64 f.kind)∧x.cell? ⟨w2.heap.size,1,none⟩=some (.int .i64 f.frm)∧x.cell? ⟨w2.heap.size,2,none⟩=some (.int .i64 f.org)∧x.cell? ⟨w2.heap.size,3,none⟩=some (.int .i64 f.seq)∧x.cell? ⟨w2.heap.size,4,none⟩=some (.int .i64 f.low)∧x.cell? ⟨w2.heap.size,5,none⟩=some (.slice f.ad g.n f.cap)∧x.cell? ⟨w2.heap.size,6,none⟩=some (.string f.body))
   (first|(exact ⟨c4,s0,s1,s2,s3,s4,s5,s6⟩)|(exact ⟨(HB5.out.cell (p:=⟨b,4,none⟩) hbz).trans c4,(HB5.out.cell (p:=⟨w2.heap.size,0,none⟩) sz).trans s0,(HB5.out.cell (p:=⟨w2.heap.size,1,none⟩) sz).trans s1,(HB5.out.cell (p:=⟨w2.heap.size,2,none⟩) sz).trans s2,(HB5.out.cell (p:=⟨w2.heap.size,3,none⟩) sz).trans s3,(HB5.out.cell (p:=⟨w2.heap.size,4,none⟩) sz).trans s4,(HB5.out.cell (p:=⟨w2.heap.size,5,none⟩) sz).trans s5,(HB5.out.cell (p:=⟨w2.heap.size,6,none⟩) sz).trans s6⟩) | go_keep)
   (first|(go_at_call 151;refine (HPO.out _ (Below.refl _ _).drew).mono ?_;rintro e w5 ⟨⟨av,nv,cv,rfl,hv5⟩,hb5⟩;have HB5:Hid (Below w4.heap.size w4 w5):=(Below.refl _ _).drew.trans hb5;have HV5:Hid _:=hv5;clear hb5 hv5))
  have HT5:Hid _:=HT4.out.low HB5.out
  have HS75:Hid _:=HS74.out.below HB5.out sz
  have HZ4:Hid (X.heap.size≤w4.heap.size):=HT4.out.rest.size
  have HLF:Hid (∀ k,G4.foot b (insF fs m f) k→k<w4.heap.size):=fun k hk=>HT4.out.nod.a1k hk
  clear c4 s0 s1 s2 s3 s4 s5 s6 sz
  go_wp2_with fail
  refine (a7c b g.n g.W g.B g.L p G4.gv G4.rows (vset s.vs p p f.seq) G4.sa (insF fs m f).length G4.scap (insF fs m f) w5 HT5.out.nod.nb HT5.out.nod.nv hn8 HT5.out.nod.c6 HT5.out.nod.fr (by rw [a2z _ _ _ HM.out.le];omega) (fun a ha=>by
   rcases a4u ha with rfl | ha
   ·exact ⟨p,HOR.out,hp⟩
   ·exact (HS.out.st a.fm (by rw [←HST.out];exact List.mem_map_of_mem ha)).org)).mono ?_
  rintro e w6 ⟨rfl,hk6⟩
  obtain ⟨G6,hN6⟩:=HT5.out.kept hk6 (fun a ha=>Or.inl (List.mem_filter.1 ha).1)
  have HT6:Hid _:=hN6
  have HS76:Hid _:=HS75.out.alike hk6.rest (fun hc=>HT5.out.off hzX HZ.out (a6e _ _ _ _ hc))
  have HK6:Hid _:=hk6
  obtain ⟨s0,s1,s2,s3,s4,s5,s6,sz⟩:=HS76.out
  clear hN6 hk6
  go_wp2_with fail
  go_ret3
  refine ⟨f.seq,_,.nilIface,rfl,⟨Or.inl ⟨rfl,hK0⟩⟩,fun h=>absurd hK0 h,fun _=>⟨HSQ.out,?_,?_,?_⟩⟩
  ·have h1:=HV5.out.alike HK6.out.rest (fun k h1 h2 hE=>by
    have:=HLF.out k (a6e _ _ _ _ hE)
    omega)
   have h2:=h1.mono (b':=w.heap.size) (by have:=HBX.out.size;have:=HZ4.out;omega)
   rw [a8t HFM.out.2.1 HFM.out.2.2,HFM.out.1,HOR.out] at h2
   exact h2
  ·refine (Alike.of_below HBX.out F).trans HT6.out.rest (fun k hk hE=>?_)
   rcases hE with hE | hE
   ·exact hE
   ·have:=HV2.out.2 k hE
    have:=HSZ.out
    omega
  ·refine ⟨G6.foot b (keptF (gone (vset s.vs p p f.seq) g.L g.n) (insF fs m f)),⟨G6,_,?_,?_,?_,fun _=>Iff.rfl⟩,fun k hk=>?_⟩
   ·rw [←HFM.out.1]
    exact HT6.out.nod
   ·rw [a8k,ae8 HM.out,HST.out,←HFM.out.1]
    rfl
   ·intro a ha
    rcases a4u (List.mem_filter.1 ha).1 with rfl | ha
    ·exact HFM.out.2
    ·exact HKF.out a ha
   ·have hz:=HBX.out.size
    rcases HT6.out.own k hk with (h | h) | h
    ·exact Or.inl h
    ·have:=HV2.out.2 k h
     have:=HSZ.out
     exact Or.inr (by omega)
    ·exact Or.inr (by omega)
 ·obtain ⟨t,x,rfl⟩:∃ t x,v1=.iface t x:=by
   rcases hv1.how with ⟨_,h⟩ | ⟨_,_,_,h⟩ | ⟨_,_,_,_,h⟩
   ·exact absurd h hK0
   ·exact ⟨_,_,h⟩
   ·exact ⟨_,_,h⟩
  clear hv1
  go_wp2_with fail
  go_ret3
  exact ⟨0,_,_,rfl,HV1.out,fun _=>⟨rfl,rfl,HB1.out⟩,fun h=>absurd h hK0⟩
theorem b44 (A:Nat→Addr) (base b:Nat) (g:Gr) (p:Nat) (s:NS) (F:Nat→Prop) (body:ByteArray) (hg:g.Ok) (hp:p<g.n) (hs:s.Ok g p) (w:World) (hw:Sl w A base) (hF:∀ k,F k→base≤k) (h:a0m w b g p s F) :
  Calls Tryz.prog 93 #[.pointer (some ⟨b,0,none⟩),.string body] w fun e w'=>∃ v er,e=.returned (.tuple #[.int .i64 (s.say g p body).q,v,er])∧a0l A er (s.say g p body).k∧Did w w' b g p F (s.say g p body).s v (s.say g p body).ps:=by
 refine (aq8 A base b g p s F body hg hp hs w hw hF h).mono ?_
 rintro e w' ⟨q,v,er,rfl,he,hno,hyes⟩
 unfold NS.say
 by_cases hK:s.sayK g p body.size=0
 ·obtain ⟨rfl,h1,h2,h3⟩:=hyes hK
  rw [if_pos hK]
  rw [hK] at he
  exact ⟨v,er,rfl,he,h3,h2,h1⟩
 ·obtain ⟨rfl,rfl,h1⟩:=hno hK
  rw [if_neg hK]
  exact ⟨_,er,rfl,he,Did.none h h1⟩
theorem NS.Ok.say {g:Gr} {p:Nat} {s:NS} (h:s.Ok g p) (hg:g.Ok) (hp:p<g.n) (body:ByteArray):(s.say g p body).s.Ok g p:=by
 unfold NS.say
 split
 ·rename_i hK
  obtain ⟨h1,h2,h3⟩:=a8c hK
  exact h.said hp (NS.as3 h hg hp h1 h2 h3) rfl rfl (by show vw s.vs p p+1≤_;omega)
 ·exact h
end Go.Proofs.YtabecbjfamphbaaGreatDoor
namespace Go.Proofs.YtabecbjfamphbaaGreatDoor
set_option maxRecDepth 100000
def top {α:Type} (c:α→Bool) (v:α→Int):List α→Int→Int
 | [],k=>k
 | a :: l,k=>top c v l (if c a=true∧k<v a then v a else k)
theorem a9w {α:Type} (c:α→Bool) (v:α→Int) (l m:List α) (k:Int):top c v (l++m) k=top c v m (top c v l k):=by
 induction l generalizing k with
 | nil=>rfl
 | cons a l ih=>exact ih _
theorem b6x {α:Type} (c:α→Bool) (v:α→Int) (l:List α) (k x:Int):top c v l (max k x)=max (top c v l k) x:=by
 induction l generalizing k with
 | nil=>rfl
 | cons a l ih =>
  show top c v l (if c a=true∧max k x<v a then v a else max k x)=max (top c v l (if c a=true∧k<v a then v a else k)) x
  rw [←ih]
  congr 1
  by_cases hc:c a=true
  ·by_cases h:k<v a
   ·rw [if_pos (show c a=true∧k<v a from ⟨hc,h⟩)]
    by_cases h':max k x<v a
    ·rw [if_pos ⟨hc,h'⟩]
     omega
    ·rw [if_neg (fun e=>h' e.2)]
     omega
   ·rw [if_neg (show ¬ (c a=true∧k<v a) from fun e=>h e.2),if_neg (fun e=>by omega)]
  ·rw [if_neg (show ¬ (c a=true∧k<v a) from fun e=>hc e.1),if_neg (fun e=>hc e.1)]
theorem as0 {α:Type} (c:α→Bool) (v:α→Int) (l:List α) (a:α) (k:Int):top c v (l++[a]) k=if c a=true then max (top c v l k) (v a) else top c v l k:=by
 rw [a9w]
 show (if c a=true∧top c v l k<v a then v a else top c v l k)=_
 by_cases hc:c a=true
 ·rw [if_pos hc]
  by_cases h':top c v l k<v a
  ·rw [if_pos ⟨hc,h'⟩]
   omega
  ·rw [if_neg (fun e=>h' e.2)]
   omega
 ·rw [if_neg hc,if_neg (fun e=>hc e.1)]
structure RN where
 ws:List Fm
 hd:List Nat
 ts:List (Int × List Int)
def RN.cnt (r:RN) (o:Nat):Nat:=r.hd.countP (fun i=>decide ((r.ws[i]?).map Fm.org=some (o:Int)))
def RN.knows (r:RN) (p q o:Nat):Int:=if q=p then (r.cnt o:Int) else top (fun f:Fm=>decide (f.org=(o:Int)∧o≠p)) Fm.low r.ws (top (fun t:Int × List Int=>decide (t.1=(q:Int))) (fun t=>t.2.getD o 0) r.ts 0)
def RN.lowTo (r:RN) (p o:Nat):Nat→Int
 | 0=>(r.cnt o:Int)
 | k+1=>if r.knows p k o<r.lowTo p o k then r.knows p k o else r.lowTo p o k
def RN.may (r:RN) (n:Nat) (f:Fm):Bool:=decide ((∀ q,q<n→f.vec.getD q 0≤(r.cnt q:Int))∧f.seq=(r.cnt f.org.toNat:Int)+1)
def RN.best (r:RN) (n:Nat):Nat→Option Nat
 | 0=>none
 | k+1=>match r.ws[k]? with
  | none=>r.best n k
  | some f=>match r.best n k with
   | none=>if r.may n f then some k else none
   | some j=>if r.may n f∧∃ f',r.ws[j]?=some f'∧f.org<f'.org then some k else some j
def RN.run (n:Nat):Nat→RN→RN
 | 0,r=>r
 | k+1,r=>match r.best n r.ws.length with
  | none=>r
  | some i=>RN.run n k { r with hd:=r.hd++[i] }
def RN.listed (r:RN) (l:List Nat):List Wd:=l.filterMap (fun i=>(r.ws[i]?).map Fm.word)
def RN.a5c (r:RN) (o:Nat) (x:Int):List Nat:=(List.range r.ws.length).filter (fun i=>decide ((r.ws[i]?).map (fun f=>(f.org,f.seq))=some ((o:Int),x)))
def RN.keptO (r:RN) (g:Gr) (p o:Nat):List Nat:=(List.range ((r.cnt o:Int)+g.W-r.lowTo p o g.n).toNat).flatMap (fun (j:Nat)=>r.a5c o (r.lowTo p o g.n+1+(j:Int)))
def RN.kept (r:RN) (g:Gr) (p:Nat):List Nat:=(List.range g.n).flatMap (fun o=>r.keptO g p o)
theorem ak8 {r:RN} {n k:Nat} (h:r.best n k=none):∀ i f,i<k→r.ws[i]?=some f→r.may n f=false:=by
 induction k with
 | zero=>exact fun i f hi=>absurd hi (Nat.not_lt_zero _)
 | succ k ih =>
  intro i f hi hf
  unfold RN.best at h
  cases e:r.ws[k]? with
  | none =>
   rw [e] at h
   rcases Nat.lt_or_ge i k with h' | h'
   ·exact ih h i f h' hf
   ·obtain rfl:i=k:=by omega
    rw [e] at hf;cases hf
  | some fk =>
   rw [e] at h
   cases e':r.best n k with
   | none =>
    rw [e'] at h
    simp only at h
    rcases Nat.lt_or_ge i k with h' | h'
    ·exact ih e' i f h' hf
    ·obtain rfl:i=k:=by omega
     rw [e] at hf
     cases hf
     cases hm:r.may n f with
     | true=>rw [hm] at h;simp at h
     | false=>rfl
   | some j =>
    rw [e'] at h
    simp only at h
    split at h<;>cases h
theorem a4j {r:RN} {n k j:Nat} (h:r.best n k=some j):j<k∧∃ f,r.ws[j]?=some f∧r.may n f=true∧∀ i f',i<k→r.ws[i]?=some f'→r.may n f'=true→f.org≤f'.org:=by
 induction k generalizing j with
 | zero=>cases h
 | succ k ih =>
  unfold RN.best at h
  cases e:r.ws[k]? with
  | none =>
   rw [e] at h
   obtain ⟨h1,f,h2,h3,h4⟩:=ih h
   refine ⟨by omega,f,h2,h3,fun i f' hi hf hm=>?_⟩
   rcases Nat.lt_or_ge i k with h' | h'
   ·exact h4 i f' h' hf hm
   ·obtain rfl:i=k:=by omega
    rw [e] at hf;cases hf
  | some fk =>
   rw [e] at h
   cases e':r.best n k with
   | none =>
    rw [e'] at h
    simp only at h
    split at h
    ·rename_i hm
     cases h
     refine ⟨by omega,fk,e,hm,fun i f' hi hf hm'=>?_⟩
     rcases Nat.lt_or_ge i k with h' | h'
     ·rw [ak8 e' i f' h' hf] at hm';cases hm'
     ·obtain rfl:i=k:=by omega
      rw [e] at hf;cases hf;exact Int.le_refl _
    ·cases h
   | some j' =>
    rw [e'] at h
    simp only at h
    obtain ⟨h1,f,h2,h3,h4⟩:=ih e'
    split at h
    ·rename_i hm
     cases h
     obtain ⟨hm1,f2,hf2,hlt⟩:=hm
     rw [h2] at hf2
     cases hf2
     refine ⟨by omega,fk,e,hm1,fun i f' hi hf hm'=>?_⟩
     rcases Nat.lt_or_ge i k with h' | h'
     ·have:=h4 i f' h' hf hm';omega
     ·obtain rfl:i=k:=by omega
      rw [e] at hf;cases hf;exact Int.le_refl _
    ·rename_i hm
     cases h
     refine ⟨by omega,f,h2,h3,fun i f' hi hf hm'=>?_⟩
     rcases Nat.lt_or_ge i k with h' | h'
     ·exact h4 i f' h' hf hm'
     ·obtain rfl:i=k:=by omega
      rw [e] at hf
      obtain rfl:fk=f':=Option.some.inj hf
      rcases Int.lt_or_le fk.org f.org with h5 | h5
      ·exact absurd ⟨hm',f,h2,h5⟩ hm
      ·exact h5
theorem a7o:∀ {l m:List Fm},l.Pairwise Bef→m.Pairwise Bef→(∀ a,a∈l↔a∈m)→l=m
 | [],[],_,_,_=>rfl
 | [],b :: m,_,_,h=>by have:=(h b).2 List.mem_cons_self;cases this
 | a :: l,[],_,_,h=>by have:=(h a).1 List.mem_cons_self;cases this
 | a :: l,b :: m,hl,hm,h=>by
  obtain ⟨h1,h2⟩:=List.pairwise_cons.1 hl
  obtain ⟨h3,h4⟩:=List.pairwise_cons.1 hm
  have hirr:∀ x:Fm,¬ Bef x x:=fun x hx=>by unfold Bef at hx;omega
  have hab:a=b:=by
   rcases List.mem_cons.1 ((h a).1 List.mem_cons_self) with e | e
   ·exact e
   ·rcases List.mem_cons.1 ((h b).2 List.mem_cons_self) with e' | e'
    ·exact e'.symm
    ·exact absurd ((h3 a e).trans (h1 b e')) (hirr b)
  subst hab
  congr 1
  refine a7o h2 h4 (fun x=>⟨fun hx=>?_,fun hx=>?_⟩)
  ·rcases List.mem_cons.1 ((h x).1 (List.mem_cons_of_mem _ hx)) with rfl | e
   ·exact absurd (h1 _ hx) (hirr _)
   ·exact e
  ·rcases List.mem_cons.1 ((h x).2 (List.mem_cons_of_mem _ hx)) with rfl | e
   ·exact absurd (h3 _ hx) (hirr _)
   ·exact e
def SameK (a b:Fm):Prop:=a.org=b.org∧a.seq=b.seq
theorem b7q {ws:List Fm} (h:ws.Pairwise (fun a b=>¬ SameK a b)) {a b:Fm} (ha:a∈ws) (hb:b∈ws) (hk:SameK a b):a=b:=by
 induction ws with
 | nil=>cases ha
 | cons c ws ih =>
  obtain ⟨h1,h2⟩:=List.pairwise_cons.1 h
  rcases List.mem_cons.1 ha with rfl | ha'
  ·rcases List.mem_cons.1 hb with rfl | hb'
   ·rfl
   ·exact absurd hk (h1 b hb')
  ·rcases List.mem_cons.1 hb with rfl | hb'
   ·exact absurd ⟨hk.1.symm,hk.2.symm⟩ (h1 a ha')
   ·exact ih h2 ha' hb'
theorem az9 (ws:List Fm) (hd:List Nat) (h:∀ i∈hd,i<ws.length) (o:Nat):cntW (hd.filterMap (fun i=>(ws[i]?).map Fm.word)) o=hd.countP (fun i=>decide ((ws[i]?).map Fm.org=some (o:Int))):=by
 induction hd with
 | nil=>rfl
 | cons i hd ih =>
  have hi:=h i List.mem_cons_self
  have ih':=ih (fun j hj=>h j (List.mem_cons_of_mem _ hj))
  rw [List.filterMap_cons,List.countP_cons,List.getElem?_eq_getElem hi]
  simp only [Option.map_some]
  unfold cntW at ih' ⊢
  rw [List.countP_cons,ih']
  congr 1
  by_cases e:ws[i].org=(o:Int)
  ·simp [Fm.word,e]
  ·simp [Fm.word,e]
structure Mid (g:Gr) (p:Nat) (lo:Nat→Int) (st:List Fm) (vs:List (List Int)) (hs:List Wd) (r:RN):Prop where
 clk:Clk g p vs hs
 dist:r.ws.Pairwise (fun a b=>¬ SameK a b)
 wok:∀ f∈r.ws,f.Ok g
 far:∀ f∈r.ws,f.seq≤vw vs p f.org.toNat+g.W
 own:∀ f∈r.ws,f.org=p→f.seq≤vw vs p p
 sorted:st.Pairwise Bef
 st:∀ f,f∈st↔f∈r.ws∧lo f.org.toNat<f.seq
 lo:∀ o,o<g.n→lo o≤vw vs p o
 hs:hs=r.listed r.hd
 hin:∀ i∈r.hd,i<r.ws.length
 kn:∀ q o,q<g.n→o<g.n→q≠p→vw vs q o=r.knows p q o
theorem Mid.cnt {g:Gr} {p:Nat} {lo:Nat→Int} {st:List Fm} {vs:List (List Int)} {hs:List Wd} {r:RN} (h:Mid g p lo st vs hs r) {o:Nat} (ho:o<g.n):(r.cnt o:Int)=vw vs p o:=by
 rw [h.clk.cnt o ho,h.hs]
 unfold RN.cnt RN.listed
 rw [az9 r.ws r.hd h.hin o]
theorem Mid.knows {g:Gr} {p:Nat} {lo:Nat→Int} {st:List Fm} {vs:List (List Int)} {hs:List Wd} {r:RN} (h:Mid g p lo st vs hs r) {q o:Nat} (hq:q<g.n) (ho:o<g.n):r.knows p q o=vw vs q o:=by
 by_cases e:q=p
 ·subst e
  unfold RN.knows
  rw [if_pos rfl,h.cnt ho]
 ·exact (h.kn q o hq ho e).symm
theorem Mid.low {g:Gr} {p:Nat} {lo:Nat→Int} {st:List Fm} {vs:List (List Int)} {hs:List Wd} {r:RN} (h:Mid g p lo st vs hs r) (hp:p<g.n) {o:Nat} (ho:o<g.n):r.lowTo p o g.n=g.low vs o:=by
 have h1:∀ k,k≤g.n→r.lowTo p o k=Proofs.YtabecbjfamphbaaGreatDoor.lowTo vs (vw vs p o) o k:=fun k hk=>by
  induction k with
  | zero=>exact h.cnt ho
  | succ k ih =>
   unfold RN.lowTo Proofs.YtabecbjfamphbaaGreatDoor.lowTo
   rw [ih (by omega),h.knows (by omega) ho]
 rw [h1 g.n (Nat.le_refl _)]
 unfold Gr.low
 have h2:=(h.clk.bd p o hp ho).2
 refine Int.le_antisymm (a5q _ _ _ _ _ (Int.le_trans (a7a _ _ _ _) h2) (fun q hq=>a6i _ _ _ _ _ hq)) (a5q _ _ _ _ _ (a6i _ _ _ _ _ hp) (fun q hq=>a6i _ _ _ _ _ hq))
theorem Mid.may {g:Gr} {p:Nat} {lo:Nat→Int} {st:List Fm} {vs:List (List Int)} {hs:List Wd} {r:RN} (h:Mid g p lo st vs hs r) {f:Fm} (hf:f∈r.ws):r.may g.n f=nxM vs p g.n f:=by
 unfold RN.may nxM
 rw [decide_eq_decide,h.cnt (h.wok f hf).lt]
 constructor
 ·rintro ⟨h1,h2⟩
  exact ⟨h2,fun q hq=>by rw [←h.cnt hq];exact h1 q hq⟩
 ·rintro ⟨h1,h2⟩
  exact ⟨fun q hq=>by rw [h.cnt hq];exact h2 q hq,h1⟩
theorem Mid.next {g:Gr} {p:Nat} {lo:Nat→Int} {st:List Fm} {vs:List (List Int)} {hs:List Wd} {r:RN} (h:Mid g p lo st vs hs r):st.find? (nxM vs p g.n)=(r.best g.n r.ws.length).bind (fun i=>r.ws[i]?):=by
 have hnx:∀ f∈r.ws,nxM vs p g.n f=true→f∈st:=fun f hf hn=>by
  have:=of_decide_eq_true hn
  have h1:=h.lo f.org.toNat (h.wok f hf).lt
  exact (h.st f).2 ⟨hf,by omega⟩
 cases e:r.best g.n r.ws.length with
 | none =>
  show _=none
  rw [List.find?_eq_none]
  intro f hf
  have hw:=((h.st f).1 hf).1
  obtain ⟨i,hi⟩:=List.mem_iff_getElem?.1 hw
  rw [←h.may hw,ak8 e i f (List.getElem?_eq_some_iff.1 hi).1 hi]
  decide
 | some j =>
  obtain ⟨hj,f,hf,hm,hmin⟩:=a4j e
  show _=r.ws[j]?
  rw [hf]
  have hfw:f∈r.ws:=List.mem_of_getElem? hf
  rw [h.may hfw] at hm
  have hfs:=hnx f hfw hm
  cases e':st.find? (nxM vs p g.n) with
  | none =>
   rw [List.find?_eq_none] at e'
   exact absurd hm (e' f hfs)
  | some f' =>
   have hm':nxM vs p g.n f'=true:=List.find?_some e'
   have hfs':=List.mem_of_find?_eq_some e'
   have hfw':=((h.st f').1 hfs').1
   congr 1
   refine b7q h.dist hfw' hfw ?_
   have h1:f.org≤f'.org:=by
    obtain ⟨i,hi⟩:=List.mem_iff_getElem?.1 hfw'
    exact hmin i f' (List.getElem?_eq_some_iff.1 hi).1 hi (by rw [h.may hfw'];exact hm')
   have h2:f'.org≤f.org:=by
    rcases Int.lt_or_le f.org f'.org with hlt | hle
    ·exfalso
     obtain ⟨_,azs,bs,hab,hno⟩:=List.find?_eq_some_iff_append.1 e'
     rw [hab] at hfs
     rcases List.mem_append.1 hfs with hin | hin
     ·have:=hno f hin
      rw [hm] at this
      exact absurd this (by decide)
     ·rcases List.mem_cons.1 hin with rfl | hin
      ·omega
      ·have hs:=h.sorted
       rw [hab] at hs
       have hb:=(List.pairwise_cons.1 (List.pairwise_append.1 hs).2.1).1 f hin
       unfold Bef at hb
       omega
    ·exact hle
   have h3:=(of_decide_eq_true hm).1
   have h4:=(of_decide_eq_true hm').1
   have h5:f.org=f'.org:=by omega
   rw [h5] at h3
   exact ⟨h5.symm,by omega⟩
theorem a9f (ws:List Fm) (hd:List Nat) (i:Nat) (f:Fm) (h:ws[i]?=some f):(hd++[i]).filterMap (fun i=>(ws[i]?).map Fm.word)=hd.filterMap (fun i=>(ws[i]?).map Fm.word)++[f.word]:=by
 rw [List.filterMap_append]
 simp [h]
theorem Mid.step {g:Gr} {p:Nat} {lo:Nat→Int} {st:List Fm} {vs:List (List Int)} {hs:List Wd} {r:RN} (h:Mid g p lo st vs hs r) (hp:p<g.n) {i:Nat} {f:Fm} (hi:r.ws[i]?=some f) (hn:nxM vs p g.n f=true):Mid g p lo st (vset vs p f.org.toNat f.seq) (hs++[f.word]) { r with hd:=r.hd++[i] }:=by
 have hfw:f∈r.ws:=List.mem_of_getElem? hi
 have hn':=(of_decide_eq_true hn).1
 have hlt:=(h.wok f hfw).lt
 have hmono:∀ o,vw vs p o≤vw (vset vs p f.org.toNat f.seq) p o:=fun o=>by
  rw [a2f h.clk.shp hp hlt]
  split
  ·rename_i e
   rw [e.2];omega
  ·exact Int.le_refl _
 refine ⟨h.clk.take hp (h.wok f hfw) hn',h.dist,h.wok,fun f' hf'=>?_,fun f' hf' ho'=>?_,h.sorted,h.st,fun o ho=>?_,?_,?_,fun q o hq ho hqp=>?_⟩
 ·have:=h.far f' hf'
  have:=hmono f'.org.toNat
  omega
 ·have:=h.own f' hf' ho'
  have:=hmono p
  omega
 ·have:=h.lo o ho
  have:=hmono o
  omega
 ·show _=(r.hd++[i]).filterMap _
  rw [a9f r.ws r.hd i f hi,h.hs]
  rfl
 ·intro j hj
  rcases List.mem_append.1 hj with hj | hj
  ·exact h.hin j hj
  ·rw [List.mem_singleton.1 hj]
   exact (List.getElem?_eq_some_iff.1 hi).1
 ·rw [a2f h.clk.shp hp hlt,if_neg (fun c=>hqp c.1),h.kn q o hq ho hqp]
  unfold RN.knows
  rw [if_neg hqp,if_neg hqp]
theorem Mid.run {g:Gr} {p:Nat} {lo:Nat→Int} {st:List Fm} (hp:p<g.n) (k:Nat):∀ {vs:List (List Int)} {hs:List Wd} {r:RN},Mid g p lo st vs hs r→Mid g p lo st (runM g.n p st k vs hs).1 (runM g.n p st k vs hs).2 (r.run g.n k):=by
 induction k with
 | zero=>exact fun h=>h
 | succ k ih =>
  intro vs hs r h
  have hnx:=h.next
  unfold runM RN.run
  cases e:r.best g.n r.ws.length with
  | none =>
   rw [e] at hnx
   rw [hnx]
   exact h
  | some i =>
   rw [e] at hnx
   obtain ⟨hj,f,hf,hm,_⟩:=a4j e
   have hnx':st.find? (nxM vs p g.n)=some f:=by rw [hnx];exact hf
   rw [hnx']
   exact ih (h.step hp hf (by rw [←h.may (List.mem_of_getElem? hf)];exact hm))
theorem b8f (n:Nat) (k:Nat):∀ (r:RN),(r.run n k).ws=r.ws∧(r.run n k).ts=r.ts:=by
 induction k with
 | zero=>exact fun r=>⟨rfl,rfl⟩
 | succ k ih =>
  intro r
  unfold RN.run
  split
  ·exact ⟨rfl,rfl⟩
  ·exact ih _
def leftM (st:List Fm) (p:Nat) (vs:List (List Int)):Nat:=st.countP (fun f=>decide (vw vs p f.org.toNat<f.seq))
theorem an1 {α:Type} (P Q:α→Bool) (l:List α) (h:∀ x∈l,Q x=true→P x=true) (x:α) (hx:x∈l) (h1:P x=true) (h2:Q x=false):l.countP Q<l.countP P:=by
 induction l with
 | nil=>cases hx
 | cons y l ih =>
  have hm:l.countP Q≤l.countP P:=List.countP_mono_left (fun z hz=>h z (List.mem_cons_of_mem _ hz))
  rcases List.mem_cons.1 hx with rfl | hx'
  ·simp only [List.countP_cons,h1,h2]
   simp
   omega
  ·have:=ih (fun z hz=>h z (List.mem_cons_of_mem _ hz)) hx'
   have hy:=h y List.mem_cons_self
   simp only [List.countP_cons]
   cases hq:Q y
   ·simp
    omega
   ·rw [hy hq]
    simp
    omega
theorem aw3 {g:Gr} {p:Nat} {vs:List (List Int)} {st:List Fm} (h:Shp vs g.n) (hp:p<g.n) {f:Fm} (hf:f∈st) (hl:f.org.toNat<g.n) (hn:f.seq=vw vs p f.org.toNat+1):leftM st p (vset vs p f.org.toNat f.seq)<leftM st p vs:=by
 unfold leftM
 refine an1 _ _ st (fun a _ ha=>?_) f hf ?_ ?_
 ·have ha':=of_decide_eq_true ha
  refine decide_eq_true ?_
  rw [a2f h hp hl] at ha'
  split at ha'
  ·rename_i e
   rw [e.2];omega
  ·exact ha'
 ·exact decide_eq_true (by omega)
 ·refine decide_eq_false ?_
  rw [a2f h hp hl,if_pos ⟨rfl,rfl⟩]
  omega
theorem ag8 {g:Gr} {p:Nat} (hp:p<g.n) {st:List Fm} (hst:∀ f∈st,f.org.toNat<g.n) (k:Nat):∀ {vs:List (List Int)} {hs:List Wd},Shp vs g.n→leftM st p vs≤k→st.find? (nxM (runM g.n p st k vs hs).1 p g.n)=none:=by
 induction k with
 | zero =>
  intro vs hs h hk
  show st.find? (nxM vs p g.n)=none
  rw [List.find?_eq_none]
  intro f hf hn
  have:=aw3 h hp hf (hst f hf) (of_decide_eq_true hn).1
  omega
 | succ k ih =>
  intro vs hs h hk
  unfold runM
  cases e:st.find? (nxM vs p g.n) with
  | none=>exact e
  | some f =>
   have hn:nxM vs p g.n f=true:=List.find?_some e
   have hf:=List.mem_of_find?_eq_some e
   have:=aw3 h hp hf (hst f hf) (of_decide_eq_true hn).1
   exact ih (h.vset _ _ _) (by omega)
theorem am4 {n p:Nat} {st:List Fm} (k:Nat):∀ (j:Nat) (vs:List (List Int)) (hs:List Wd),st.find? (nxM (runM n p st k vs hs).1 p n)=none→runM n p st (k+j) vs hs=runM n p st k vs hs:=by
 induction k with
 | zero =>
  intro j vs hs h
  rw [Nat.zero_add]
  cases j with
  | zero=>rfl
  | succ j =>
   have h':st.find? (nxM vs p n)=none:=h
   show (match st.find? (nxM vs p n) with | none=>(vs,hs) | some f=>runM n p st j (vset vs p f.org.toNat f.seq) (hs++[f.word]))=(vs,hs)
   rw [h']
 | succ k ih =>
  intro j vs hs h
  rw [Nat.add_right_comm]
  unfold runM at h ⊢
  cases e:st.find? (nxM vs p n) with
  | none=>rfl
  | some f =>
   rw [e] at h
   exact ih j _ _ h
structure Sim (g:Gr) (p:Nat) (s:NS) (r:RN):Prop where
 ok:s.Ok g p
 mid:Mid g p (g.low s.vs) s.st s.vs s.hs r
theorem b2q {g:Gr} {p:Nat} {s:NS} {r:RN} (m:Mid g p (g.low s.vs) s.st s.vs s.hs r) {vs:List (List Int)} (h:∀ o,g.low s.vs o≤g.low vs o) (f:Fm):f∈a2p g vs s.st↔f∈r.ws∧g.low vs f.org.toNat<f.seq:=by
 rw [a1v,m.st f]
 have:=h f.org.toNat
 constructor
 ·rintro ⟨⟨h3,_⟩,h4⟩;exact ⟨h3,h4⟩
 ·rintro ⟨h3,h4⟩;exact ⟨⟨h3,by omega⟩,h4⟩
theorem Sim.told {g:Gr} {p:Nat} {s:NS} {r:RN} (h:Sim g p s r) (hp:p<g.n) {q:Nat} (hq:q<g.n) (hqp:q≠p) {v:List Int} (hv:∀ o,o<g.n→0≤v.getD o 0∧v.getD o 0≤g.L):Sim g p (s.told g q v) { r with ts:=r.ts++[((q:Int),v)] }:=by
 obtain ⟨hk,m⟩:=h
 have h2:=(m.clk.learn hq hqp hv).2
 have ho:=hk.told hq hqp hv
 have hvp:∀ o,vw (a1n s.vs q v g.n) p o=vw s.vs p o:=fun o=>by rw [a3p m.clk.shp hq _ _ (Nat.le_refl _),if_neg (by omega)]
 refine ⟨ho,⟨ho.clk,m.dist,m.wok,fun f hf=>?_,fun f hf hfo=>?_,ho.sorted,b2q m h2,fun o ho'=>ho.clk.aj5 p o hp,m.hs,m.hin,fun q' o hq' ho' hqp'=>?_⟩⟩
 ·rw [show vw (s.told g q v).vs p f.org.toNat=vw s.vs p f.org.toNat from hvp _]
  exact m.far f hf
 ·rw [show vw (s.told g q v).vs p p=vw s.vs p p from hvp _]
  exact m.own f hf hfo
 ·show vw (a1n s.vs q v g.n) q' o=_
  rw [a3p m.clk.shp hq _ _ (Nat.le_refl _),m.kn q' o hq' ho' hqp']
  unfold RN.knows
  rw [if_neg hqp',if_neg hqp',as0]
  by_cases e:q'=q
  ·subst e
   rw [if_pos ⟨rfl,ho'⟩,if_pos (by simp),b6x]
  ·rw [if_neg (fun c=>e c.1),if_neg (by simp;omega)]
def RN.with (r:RN) (f:Fm):RN:={ r with ws:=r.ws++[f] }
theorem b5b {r:RN} {f:Fm} {i:Nat} (h:i<r.ws.length):(r.with f).ws[i]?=r.ws[i]?:=List.getElem?_append_left h
theorem a9b {r:RN} {f:Fm} {l:List Nat} (h:∀ i∈l,i<r.ws.length):(r.with f).listed l=r.listed l:=by
 unfold RN.listed
 induction l with
 | nil=>rfl
 | cons i l ih =>
  rw [List.filterMap_cons,List.filterMap_cons,b5b (h i List.mem_cons_self),ih (fun j hj=>h j (List.mem_cons_of_mem _ hj))]
theorem aj6 {r:RN} {f:Fm} (h:r.ws.Pairwise (fun a b=>¬ SameK a b)) (hne:∀ a∈r.ws,¬ SameK a f):(r.with f).ws.Pairwise (fun a b=>¬ SameK a b):=by
 refine List.pairwise_append.2 ⟨h,List.pairwise_singleton _ _,fun a ha b hb=>?_⟩
 rw [List.mem_singleton.1 hb]
 exact hne a ha
theorem a2r {r:RN} {f a:Fm}:a∈(r.with f).ws↔a=f∨a∈r.ws:=by
 unfold RN.with
 rw [List.mem_append,List.mem_singleton,Or.comm]
theorem Sim.said {g:Gr} {p:Nat} {s:NS} {r:RN} (h:Sim g p s r) (hp:p<g.n) (hg:g.Ok) {f:Fm} (hf:f.Ok g) (ho:f.org=p) (hs1:f.seq=vw s.vs p p+1) (hw:f.seq≤g.low s.vs p+g.W):Sim g p (s.said g p f) { r.with f with hd:=r.hd++[r.ws.length] }:=by
 obtain ⟨hk,m⟩:=h
 have hok:=hk.said hp hf ho hs1 hw
 have e:f.org.toNat=p:=by omega
 have h2:=ab9 (x:=f.seq) m.clk.shp hp hp (by omega)
 have hvp:∀ o,vw s.vs p o≤vw (vset s.vs p p f.seq) p o:=fun o=>by
  rw [a2f m.clk.shp hp hp]
  split
  ·rename_i e';rw [e'.2];omega
  ·exact Int.le_refl _
 have hpp:vw (vset s.vs p p f.seq) p p=f.seq:=by rw [a2f m.clk.shp hp hp,if_pos ⟨rfl,rfl⟩]
 have hW:=hg.W
 refine ⟨hok,⟨hok.clk,aj6 m.dist (fun a ha hc=>?_),fun a ha=>?_,fun a ha=>?_,fun a ha hao=>?_,hok.sorted,fun a=>?_,fun o ho'=>hok.clk.aj5 p o hp,?_,fun i hi=>?_,fun q o hq ho' hqp=>?_⟩⟩
 ·have:=m.own a ha (by have:=hc.1;omega)
  have:=hc.2
  omega
 ·rcases a2r.1 ha with rfl | ha
  ·exact hf
  ·exact m.wok a ha
 ·rcases a2r.1 ha with rfl | ha
  ·rw [e]
   show _≤vw (vset s.vs p p a.seq) p p+g.W
   omega
  ·have:=m.far a ha
   have:=hvp a.org.toNat
   show _≤vw (vset s.vs p p f.seq) p a.org.toNat+g.W
   omega
 ·rcases a2r.1 ha with rfl | ha
  ·exact Int.le_of_eq hpp.symm
  ·exact Int.le_trans (m.own a ha hao) (hvp p)
 ·show a∈a2p g (vset s.vs p p f.seq) (insM s.st f)↔a∈(r.with f).ws∧g.low (vset s.vs p p f.seq) a.org.toNat<a.seq
  rw [a1v,a2s,a2r,m.st a]
  have:=h2 a.org.toNat
  constructor
  ·rintro ⟨h3 | ⟨h3,_⟩,h4⟩
   ·exact ⟨Or.inl h3,h4⟩
   ·exact ⟨Or.inr h3,h4⟩
  ·rintro ⟨h3 | h3,h4⟩
   ·exact ⟨Or.inl h3,h4⟩
   ·exact ⟨Or.inr ⟨h3,by omega⟩,h4⟩
 ·show s.hs++[f.word]=(r.hd++[r.ws.length]).filterMap (fun i=>((r.with f).ws[i]?).map Fm.word)
  rw [a9f (r.with f).ws r.hd r.ws.length f (by unfold RN.with;simp),m.hs]
  congr 1
  exact (a9b m.hin).symm
 ·show i<(r.ws++[f]).length
  rw [List.length_append,List.length_singleton]
  rcases List.mem_append.1 hi with h' | h'
  ·have:=m.hin i h';omega
  ·rw [List.mem_singleton.1 h'];omega
 ·show vw (vset s.vs p p f.seq) q o=_
  rw [a2f m.clk.shp hp hp,if_neg (fun c=>hqp c.1),m.kn q o hq ho' hqp]
  unfold RN.knows RN.with
  rw [if_neg hqp,if_neg hqp,as0,if_neg (by simp;omega)]
theorem Sim.begin {g:Gr} {p:Nat} {s:NS} {r:RN} (h:Sim g p s r) {f:Fm} (hf:f.Ok g) (hop:f.org≠p) (hnew:vw s.vs p f.org.toNat<f.seq) (hw:f.seq≤vw s.vs p f.org.toNat+g.W) (hne:∀ a∈s.st,¬ (a.org=f.org∧a.seq=f.seq)):Mid g p (g.low s.vs) (insM s.st f) (vlow s.vs p f.org.toNat f.low g.n) s.hs (r.with f):=by
 obtain ⟨hk,m⟩:=h
 have hl:=hf.low
 have hq:=hf.seq
 obtain ⟨h1,h2⟩:=m.clk.lows hf.lt (x:=f.low) (by omega)
 have hvp:∀ o,vw (vlow s.vs p f.org.toNat f.low g.n) p o=vw s.vs p o:=fun o=>by rw [a5o m.clk.shp hf.lt _ _ (Nat.le_refl _),if_neg (by omega)]
 have hlow:=m.lo f.org.toNat hf.lt
 refine ⟨h1,aj6 m.dist (fun a ha hc=>?_),fun a ha=>?_,fun a ha=>?_,fun a ha hao=>?_,a5j m.sorted hne,fun a=>?_,fun o ho'=>?_,?_,fun i hi=>?_,fun q o hq ho' hqp=>?_⟩
 ·have e1:a.org.toNat=f.org.toNat:=by rw [hc.1]
  have e2:=hc.2
  exact hne a ((m.st a).2 ⟨ha,by rw [e1];omega⟩) hc
 ·rcases a2r.1 ha with rfl | ha
  ·exact hf
  ·exact m.wok a ha
 ·rw [hvp]
  rcases a2r.1 ha with rfl | ha
  ·exact hw
  ·exact m.far a ha
 ·rw [hvp]
  rcases a2r.1 ha with rfl | ha
  ·exact absurd hao hop
  ·exact m.own a ha hao
 ·rw [a2s,a2r,m.st a]
  constructor
  ·rintro (rfl | ⟨h3,h4⟩)
   ·exact ⟨Or.inl rfl,by omega⟩
   ·exact ⟨Or.inr h3,h4⟩
  ·rintro ⟨h3 | h3,h4⟩
   ·exact Or.inl h3
   ·exact Or.inr ⟨h3,h4⟩
 ·rw [hvp]
  exact m.lo o ho'
 ·show s.hs=(r.with f).listed r.hd
  rw [a9b m.hin]
  exact m.hs
 ·show i<(r.ws++[f]).length
  have:=m.hin i hi
  rw [List.length_append]
  omega
 ·rw [a5o m.clk.shp hf.lt _ _ (Nat.le_refl _),m.kn q o hq ho' hqp]
  unfold RN.knows RN.with
  rw [if_neg hqp,if_neg hqp,as0]
  have h3:=hf.a8a
  by_cases e:o=f.org.toNat
  ·rw [if_pos ⟨hqp,hq,e⟩,if_pos (by simp;omega)]
  ·rw [if_neg (fun c=>e c.2.2),if_neg (by simp;omega)]
theorem Sim.got {g:Gr} {p:Nat} {s:NS} {r:RN} (h:Sim g p s r) (hp:p<g.n) {f:Fm} (hf:f.Ok g) (hop:f.org≠p) (hnew:vw s.vs p f.org.toNat<f.seq) (hw:f.seq≤vw s.vs p f.org.toNat+g.W) (hne:∀ a∈s.st,¬ (a.org=f.org∧a.seq=f.seq)):Sim g p (s.got g p f) ((r.with f).run g.n (s.st.length+1)):=by
 have m1:=h.begin hf hop hnew hw hne
 have hok:=h.ok.got hp hf hop hw hne
 have m2:=m1.run hp (s.st.length+1)
 have hst:∀ a∈insM s.st f,a.Ok g:=fun a ha=>m1.wok a ((m1.st a).1 ha).1
 have h4:=(Clk.run hp hst (s.st.length+1) m1.clk).2.1
 have h2:=(h.mid.clk.lows hf.lt (x:=f.low) (by have:=hf.low;have:=hf.seq;omega)).2
 refine ⟨hok,⟨hok.clk,m2.dist,m2.wok,m2.far,m2.own,hok.sorted,fun a=>?_,fun o ho'=>hok.clk.aj5 p o hp,m2.hs,m2.hin,m2.kn⟩⟩
 show a∈a2p g (s.ran g p f).1 (insM s.st f)↔_∧g.low (s.ran g p f).1 a.org.toNat<a.seq
 rw [a1v,m2.st a]
 have h5:g.low s.vs a.org.toNat≤g.low (s.ran g p f).1 a.org.toNat:=Int.le_trans (h2 _) (h4 _)
 constructor
 ·rintro ⟨⟨h6,_⟩,h7⟩;exact ⟨h6,h7⟩
 ·rintro ⟨h6,h7⟩;exact ⟨⟨h6,by omega⟩,h7⟩
def RN.has (r:RN) (o x:Int):Bool:=r.ws.any (fun f=>decide (f.org=o∧f.seq=x))
theorem Sim.has {g:Gr} {p:Nat} {s:NS} {r:RN} (h:Sim g p s r) {o:Nat} {x:Int} (hx:vw s.vs p o<x):r.has o x=true↔∃ a∈s.st,a.org=o∧a.seq=x:=by
 unfold RN.has
 rw [List.any_eq_true]
 constructor
 ·rintro ⟨f,hf,hd⟩
  obtain ⟨e1,e2⟩:=of_decide_eq_true hd
  have e3:f.org.toNat=o:=by omega
  have h1:=h.mid.lo o (by rw [←e3];exact (h.mid.wok f hf).lt)
  exact ⟨f,(h.mid.st f).2 ⟨hf,by rw [e3];omega⟩,e1,e2⟩
 ·rintro ⟨f,hf,e1,e2⟩
  exact ⟨f,((h.mid.st f).1 hf).1,decide_eq_true ⟨e1,e2⟩⟩
theorem a7n (P:Fm→Bool):∀ (n:Nat) (ws:List Fm),n≤ws.length→((List.range n).filter (fun i=>((ws[i]?).map P).getD false)).filterMap (fun i=>ws[i]?)=(ws.take n).filter P
 | 0,ws,_=>by simp
 | n+1,ws,h=>by
  rw [List.range_succ,List.filter_append,List.filterMap_append,a7n P n ws (by omega),List.take_add_one,List.filter_append,List.getElem?_eq_getElem (by omega)]
  congr 1
  cases e:P ws[n] with
  | true=>simp [e,List.getElem?_eq_getElem (show n<ws.length by omega)]
  | false=>simp [e,List.getElem?_eq_getElem (show n<ws.length by omega)]
def RN.at (r:RN) (l:List Nat):List Fm:=l.filterMap (fun i=>r.ws[i]?)
theorem a3l {α β γ:Type} (f:α→List β) (k:β→Option γ) (l:List α):(l.flatMap f).filterMap k=l.flatMap (fun a=>(f a).filterMap k):=by
 induction l with
 | nil=>rfl
 | cons a l ih=>rw [List.flatMap_cons,List.filterMap_append,ih,List.flatMap_cons]
theorem b0w (r:RN) (o:Nat) (x:Int):r.at (r.a5c o x)=r.ws.filter (fun f=>decide (f.org=(o:Int)∧f.seq=x)):=by
 have h:=a7n (fun f=>decide (f.org=(o:Int)∧f.seq=x)) r.ws.length r.ws (Nat.le_refl _)
 rw [List.take_length] at h
 rw [←h]
 unfold RN.at RN.a5c
 congr 1
 apply List.filter_congr
 intro i hi
 rw [List.getElem?_eq_getElem (List.mem_range.1 hi)]
 simp
theorem a4a {α β:Type} {R:β→β→Prop} {f:α→List β}:∀ {l:List α},(∀ a∈l,(f a).Pairwise R)→l.Pairwise (fun a b=>∀ x∈f a,∀ y∈f b,R x y)→(l.flatMap f).Pairwise R
 | [],_,_=>List.Pairwise.nil
 | a :: l,h1,h2=>by
  obtain ⟨h3,h4⟩:=List.pairwise_cons.1 h2
  rw [List.flatMap_cons]
  refine List.pairwise_append.2 ⟨h1 a List.mem_cons_self,a4a (fun b hb=>h1 b (List.mem_cons_of_mem _ hb)) h4,fun x hx y hy=>?_⟩
  obtain ⟨b,hb,hy'⟩:=List.mem_flatMap.1 hy
  exact h3 b hb x hx y hy'
theorem Sim.kept {g:Gr} {p:Nat} {s:NS} {r:RN} (h:Sim g p s r) (hp:p<g.n):r.at (r.kept g p)=s.st:=by
 have m:=h.mid
 have hk:r.at (r.kept g p)=(List.range g.n).flatMap (fun o=>(List.range ((r.cnt o:Int)+g.W-r.lowTo p o g.n).toNat).flatMap (fun (j:Nat)=>r.ws.filter (fun f=>decide (f.org=(o:Int)∧f.seq=r.lowTo p o g.n+1+(j:Int))))):=by
  show (List.flatMap _ _).filterMap _=_
  rw [a3l]
  congr 1
  funext o
  show (List.flatMap _ _).filterMap _=_
  rw [a3l]
  congr 1
  funext j
  exact b0w r o _
 rw [hk]
 refine a7o ?_ m.sorted (fun a=>?_)
 ·refine a4a (fun o ho=>a4a (fun j hj=>?_) ?_) ?_
  ·refine (List.Pairwise.and_mem.1 (m.dist.filter _)).imp ?_
   rintro a b ⟨ha,hb,hn⟩
   have h1:=of_decide_eq_true (List.mem_filter.1 ha).2
   have h2:=of_decide_eq_true (List.mem_filter.1 hb).2
   exact absurd ⟨h1.1.trans h2.1.symm,h1.2.trans h2.2.symm⟩ hn
  ·refine List.pairwise_lt_range.imp ?_
   intro i j hij a ha b hb
   have h1:=of_decide_eq_true (List.mem_filter.1 ha).2
   have h2:=of_decide_eq_true (List.mem_filter.1 hb).2
   unfold Bef
   omega
  ·refine List.pairwise_lt_range.imp ?_
   intro i j hij a ha b hb
   obtain ⟨_,_,ha'⟩:=List.mem_flatMap.1 ha
   obtain ⟨_,_,hb'⟩:=List.mem_flatMap.1 hb
   have h1:=of_decide_eq_true (List.mem_filter.1 ha').2
   have h2:=of_decide_eq_true (List.mem_filter.1 hb').2
   unfold Bef
   omega
 ·rw [m.st a,List.mem_flatMap]
  constructor
  ·rintro ⟨o,ho,ha⟩
   obtain ⟨j,hj,ha'⟩:=List.mem_flatMap.1 ha
   obtain ⟨h1,h2⟩:=List.mem_filter.1 ha'
   have h3:=of_decide_eq_true h2
   have ho':=List.mem_range.1 ho
   have e:a.org.toNat=o:=by omega
   rw [m.low hp ho'] at h3
   exact ⟨h1,by rw [e];omega⟩
  ·rintro ⟨h1,h2⟩
   have h3:=(m.wok a h1).lt
   have h4:=(m.wok a h1).a8a
   have h5:=m.far a h1
   refine ⟨a.org.toNat,List.mem_range.2 h3,List.mem_flatMap.2 ⟨(a.seq-r.lowTo p a.org.toNat g.n-1).toNat,?_,List.mem_filter.2 ⟨h1,decide_eq_true ⟨h4.symm,?_⟩⟩⟩⟩
   ·rw [List.mem_range,m.low hp h3,m.cnt h3]
    omega
   ·rw [m.low hp h3]
    omega
end Go.Proofs.YtabecbjfamphbaaGreatDoor
namespace Go.Proofs.YtabecbjfamphbaaGreatDoor
open Go.RowKit Go.Stop Go.Extern
set_option maxRecDepth 100000
def newK (y W:Int) (fo:Bool) (f:Fr):Nat:=if f.seq≤y then 7 else if fo=true then 7 else if y+W<f.seq then 8 else 0
set_option maxHeartbeats 1000000 in
theorem al2 (A:Nat→Addr) (b n:Nat) (W B L:Int) (p gv:Nat) (rows:List Nat) (vs:List (List Int)) (sa:Option Addr) (slen scap:Nat) (fs:List Fr) (f:Fr) (o m:Nat) (ho:f.org=o) (hon:o<n) (hp:p<n) (w:World) (hw:Sents w A) (hb:NB w b n W B L p gv) (hv:NVw w gv n rows vs)
  (h6:w.cell? ⟨b,6,none⟩=some (.slice sa slen scap)) (hr:Frs w n sa slen scap fs) (hl:slen≤1000) (hm:Place fs f m) (hcb:0≤vw vs p o∧vw vs p o≤65535) (hW:0≤W∧W≤1000000) :
  Calls Tryz.prog 194 #[.pointer (some ⟨b,0,none⟩),Fr.agg n f] w fun e w'=>(∃ v,e=.returned v∧a0l A v (newK (vw vs p o) W (foundAt fs f m) f))∧Below w.heap.size w w':=by
 obtain ⟨kd,fm,org,seq,lo,ad,cp,vec,body⟩:=f
 simp only at ho
 subst ho
 have hal:=a00 w (.cells #[.int .i64 kd,.int .i64 fm,.int .i64 (o:Int),.int .i64 seq,.int .i64 lo,.slice ad n cp,.string body] 45)
 have hsv:=a05 w (.int .i64 kd) (.int .i64 fm) (.int .i64 (o:Int)) (.int .i64 seq) (.int .i64 lo) (.slice ad n cp) (.string body) 45
 have HAL:Hid _:=hal
 have HKp:Hid (∀ x,Below w.heap.size w x→Calls Tryz.prog 224 #[.pointer (some ⟨b,0,none⟩),.agg #[.int .i64 kd,.int .i64 fm,.int .i64 (o:Int),.int .i64 seq,.int .i64 lo,.slice ad n cp,.string body]] x fun e w'=>e=.returned (.bool (foundAt fs ⟨kd,fm,(o:Int),seq,lo,ad,cp,vec,body⟩ m))∧Below x.heap.size x w'):=fun x hx=>b1v b n sa slen scap fs ⟨kd,fm,(o:Int),seq,lo,ad,cp,vec,body⟩ m x ((hx.cell (p:=⟨b,6,none⟩) (lt_of_cell h6)).trans h6) (hr.low hx) hl hm
 have HI:Hid (∀ k s,1≤k→k≤8→a0l A (.iface 208 (.agg #[.string s,.iface 298 (.pointer (some (A k)))])) k):=fun k s h1 h8=>⟨Or.inr (Or.inl ⟨h1,h8,s,rfl⟩)⟩
 have HK:Hid (newK (vw vs p o) W (foundAt fs ⟨kd,fm,(o:Int),seq,lo,ad,cp,vec,body⟩ m) ⟨kd,fm,(o:Int),seq,lo,ad,cp,vec,body⟩=if seq≤vw vs p o then 7 else if foundAt fs ⟨kd,fm,(o:Int),seq,lo,ad,cp,vec,body⟩ m=true then 7 else if vw vs p o+W<seq then 8 else 0):=rfl
 have HC7:Hid (∀ x,Below w.heap.size w x→x.cell? ⟨6,0,none⟩=some (.iface 298 (.pointer (some (A 7))))):=fun x hx=>(hw.below hx).c 7 (by decide) (by decide)
 have HC8:Hid (∀ x,Below w.heap.size w x→x.cell? ⟨7,0,none⟩=some (.iface 298 (.pointer (some (A 8))))):=fun x hx=>(hw.below hx).c 8 (by decide) (by decide)
 have HCW:Hid (∀ x,Below w.heap.size w x→x.cell? ⟨b,1,none⟩=some (.int .i64 W)):=fun x hx=>(hx.cell (p:=⟨b,1,none⟩) (lt_of_cell hb.c1)).trans hb.c1
 have hb':=hb.alike (E:=fun _=>False) (Alike.of_below hal _) (fun h=>h)
 have hv':=hv.alike (E:=fun _=>False) (Alike.of_below hal _) (fun h=>h) (fun _ _ h=>h)
 have hc:=hv'.cell hp hon
 have hoi:(o:Int)<(n:Int):=by omega
 have hwr:IntKind.i64.wrap (vw vs p o+W)=vw vs p o+W:=by rw [IntKind.wrap_i64];omega
 clear hw hb hv h6 hr hm hal
 generalize newK (vw vs p o) W (foundAt fs ⟨kd,fm,(o:Int),seq,lo,ad,cp,vec,body⟩ m) ⟨kd,fm,(o:Int),seq,lo,ad,cp,vec,body⟩=res at *
 generalize foundAt fs ⟨kd,fm,(o:Int),seq,lo,ad,cp,vec,body⟩ m=fo at *
 unfold Fr.agg
 simp only
 go_enter Tryz.func194,Tryz.ntmps194
 go_wp2_with fail
 generalize w.alloc (.cells #[.int .i64 kd,.int .i64 fm,.int .i64 (o:Int),.int .i64 seq,.int .i64 lo,.slice ad n cp,.string body] 45)=X at *
 have HSv:Hid _:=hsv
 obtain ⟨s0,s1,s2,s3,s4,s5,s6,sz⟩:=hsv
 have HCl:Hid (Calls Tryz.prog 102 #[.pointer (some ⟨b,0,none⟩)] X.drew fun e w'=>e=.returned (.slice (some ⟨rows.getD p 0,0,none⟩) n n)∧∃ m,w'=X.drew.drewN m):=a2x b n W B L p gv rows vs X.drew (hb'.alike (E:=fun _=>False) (Alike.of_below (Below.refl _ _).drew _) (fun h=>h)) (hv'.alike (E:=fun _=>False) (Alike.of_below (Below.refl _ _).drew _) (fun h=>h) (fun _ _ h=>h)) hp
 clear hb' hv'
 generalize hgp:rows.getD p 0=gp at *
 generalize hvo:vw vs p o=y at *
 go_region_held3 (fun x=>x.cell? ⟨w.heap.size,2,none⟩=some (.int .i64 (o:Int))∧x.cell? ⟨gp,o,none⟩=some (.int .i64 y)) (first|(exact ⟨s2,hc⟩) | go_keep) (first|(go_at_call 102;refine HCl.out.mono ?_;rintro e w' ⟨rfl,m,rfl⟩))
 have HY:Hid (Below w.heap.size w (X.drewN (1+m))):=below_drewN HAL.out _
 obtain ⟨r0,r1,r2,r3,r4,r5,r6⟩:(X.drewN (1+m)).cell? ⟨w.heap.size,0,none⟩=some (.int .i64 kd)∧(X.drewN (1+m)).cell? ⟨w.heap.size,1,none⟩=some (.int .i64 fm)∧(X.drewN (1+m)).cell? ⟨w.heap.size,2,none⟩=some (.int .i64 (o:Int))∧(X.drewN (1+m)).cell? ⟨w.heap.size,3,none⟩=some (.int .i64 seq)∧(X.drewN (1+m)).cell? ⟨w.heap.size,4,none⟩=some (.int .i64 lo)∧(X.drewN (1+m)).cell? ⟨w.heap.size,5,none⟩=some (.slice ad n cp)∧(X.drewN (1+m)).cell? ⟨w.heap.size,6,none⟩=some (.string body):=⟨s0,s1,s2,s3,s4,s5,s6⟩
 have rz:w.heap.size<(X.drewN (1+m)).heap.size:=sz
 clear s0 s1 s2 s3 s4 s5 s6 sz hc HCl HSv HAL
 rename_i hHeld
 clear hHeld
 generalize X.drewN (1+m)=Y at *
 have c7:=HC7.out Y HY.out
 have c8:=HC8.out Y HY.out
 have cW:=HCW.out Y HY.out
 by_cases h1:seq≤y
 ·have HR:Hid (res=7):=HK.out.trans (if_pos h1)
  clear HK
  go_wp2_with (go_at_call 90;refine (a0r _ _ _).mono ?_;rintro e w' ⟨rfl,rfl⟩)
  go_ret
  exact ⟨⟨_,rfl,by rw [show res=7 from HR.out];exact HI.out 7 _ (by decide) (by decide)⟩,HY.out⟩
 ·have e1:¬ seq≤y:=h1
  go_wp2_with fail
  refine (HKp.out Y HY.out).mono ?_
  rintro e w1 ⟨rfl,hb1⟩
  have HY1:Hid (Below w.heap.size w w1):=bthen HY.out hb1
  have q3:=(hb1.cell (p:=⟨w.heap.size,3,none⟩) rz).trans r3
  clear c7 c8 cW r0 r1 r2 r3 r4 r5 r6 hb1
  have c7:=HC7.out w1 HY1.out
  have c8:=HC8.out w1 HY1.out
  have cW:=HCW.out w1 HY1.out
  cases fo with
  | true =>
   have HR:Hid (res=7):=HK.out.trans ((if_neg (by omega)).trans (if_pos rfl))
   clear HK
   go_wp2_with (go_at_call 90;refine (a0r _ _ _).mono ?_;rintro e w' ⟨rfl,rfl⟩)
   go_ret
   exact ⟨⟨_,rfl,by rw [show res=7 from HR.out];exact HI.out 7 _ (by decide) (by decide)⟩,HY1.out⟩
  | false =>
   by_cases h3:y+W<seq
   ·have HR:Hid (res=8):=HK.out.trans ((if_neg (by omega)).trans ((if_neg (by decide)).trans (if_pos h3)))
    clear HK
    go_wp2_with fail
    go_quiet (fail)
    go_wp2_with (go_at_call 90;refine (a0r _ _ _).mono ?_;rintro e w' ⟨rfl,rfl⟩)
    go_ret
    exact ⟨⟨_,rfl,by rw [show res=8 from HR.out];exact HI.out 8 _ (by decide) (by decide)⟩,below_drewN HY1.out _⟩
   ·have HR:Hid (res=0):=HK.out.trans ((if_neg (by omega)).trans ((if_neg (by decide)).trans (if_neg h3)))
    clear HK
    go_wp2_with fail
    go_quiet (fail)
    go_wp2_with fail
    go_ret
    exact ⟨⟨_,rfl,by rw [show res=0 from HR.out];exact ⟨Or.inl ⟨rfl,rfl⟩⟩⟩,below_drewN HY1.out _⟩
theorem b2j (fs:List Fr) (vs:List (List Int)) (p n:Nat):(fs.map Fr.fm).find? (nxM vs p n)=(fs.find? (nx vs p n)).map Fr.fm:=by
 rw [List.find?_map]
 congr 1
theorem b2m {fs:List Fr} {p n:Nat} {vs0 vs:List (List Int)} {hs0 hs:List Wd} (h:Turns fs p n vs0 hs0 vs hs):∃ k,∀ j,runM n p (fs.map Fr.fm) (k+j) vs0 hs0=runM n p (fs.map Fr.fm) j vs hs:=by
 induction h with
 | none=>exact ⟨0,fun j=>by rw [Nat.zero_add]⟩
 | more _ hf ih =>
  rename_i f _
  obtain ⟨k,ih⟩:=ih
  refine ⟨k+1,fun j=>?_⟩
  rw [Nat.add_right_comm,Nat.add_assoc,ih (j+1)]
  conv=>lhs;unfold runM
  rw [b2j,hf]
  rfl
theorem b2p {g:Gr} {fs:List Fr} {p:Nat} (hp:p<g.n) {vs0 vs:List (List Int)} {hs0 hs:List Wd} (h:Turns fs p g.n vs0 hs0 vs hs) (hf:fs.find? (nx vs p g.n)=none) (hsh:Shp vs0 g.n) (hst:∀ f∈fs.map Fr.fm,f.org.toNat<g.n):runM g.n p (fs.map Fr.fm) fs.length vs0 hs0=(vs,hs):=by
 obtain ⟨k,hk⟩:=b2m h
 have h1:=ag8 (hs:=hs0) hp hst fs.length hsh (by
  unfold leftM
  refine Nat.le_trans List.countP_le_length ?_
  rw [List.length_map]
  exact Nat.le_refl _)
 have h2:=am4 fs.length k vs0 hs0 h1
 rw [←h2,Nat.add_comm,hk fs.length]
 have h3:(fs.map Fr.fm).find? (nxM vs p g.n)=none:=by rw [b2j,hf];rfl
 have h4:=am4 (n:=g.n) (p:=p) (st:=fs.map Fr.fm) 0 fs.length vs hs h3
 rw [Nat.zero_add] at h4
 exact h4
set_option maxHeartbeats 4000000 in
theorem ak0 (A:Nat→Addr) (base b:Nat) (g:Gr) (p:Nat) (s:NS) (F:Nat→Prop) (f:Fr) (hg:g.Ok) (hp:p<g.n) (hs:s.Ok g p) (w:World) (hw:Sl w A base) (hF:∀ k,F k→base≤k) (h:a0m w b g p s F) (hkd:f.kind=1) (hfo:f.fm.Ok g) (hv:VecAt w g.n f) (hvF:∀ k,onB f.ad k→¬ F k∧base≤k) :
  Calls Tryz.prog 155 #[.pointer (some ⟨b,0,none⟩),Fr.agg g.n f] w fun e w'=>∃ v er,e=.returned (.tuple #[v,er])∧a0l A er (s.newK g p f.fm) ∧
   (s.newK g p f.fm≠0→v=.slice none 0 0∧Below w.heap.size w w') ∧
   (s.newK g p f.fm=0→Pks w' w.heap.size v (passL (textM g p f.fm) p f.org f.frm g.n)∧Alike w w' (fun k=>F k∨onB f.ad k)∧∃ F',a0m w' b g p (s.got g p f.fm) F'∧∀ k,F' k→F k∨onB f.ad k∨w.heap.size≤k):=by
 obtain ⟨G,fs,hN,hst,hkf,hFt⟩:=h.how
 obtain ⟨o,hor,hon⟩:=hfo.org
 have hor':f.org=o:=hor
 have hoN:f.org.toNat=o:=by rw [hor'];exact Int.toNat_natCast o
 have hcb:=hs.clk.bd p o hp hon
 have hL:=hg.L
 have hWb:=hg.W
 have hsh:=hs.short hg
 have hhl:=hs.clk.short hg hp
 have hn8:=hg.n.2
 have hlen:fs.length=s.st.length:=by rw [←hst,List.length_map]
 obtain ⟨m,hm⟩:=au5 (fs:=fs) (by rw [hst];exact hs.sorted) f
 have HKe:Hid (s.newK g p f.fm=Proofs.YtabecbjfamphbaaGreatDoor.newK (vw s.vs p o) g.W (foundAt fs f m) f):=by
  show NS.newK _ _ _ _=_
  unfold NS.newK Proofs.YtabecbjfamphbaaGreatDoor.newK
  rw [show f.fm.org.toNat=o from hoN]
  have h1:(s.st.any (fun a=>decide (a.org=f.fm.org∧a.seq=f.fm.seq))=true)=(foundAt fs f m=true):=by
   rw [b2i (by rw [hst];exact hs.sorted) hm,hst,List.any_eq_true]
   exact propext ⟨fun ⟨x,h1,h2⟩=>⟨x,h1,of_decide_eq_true h2⟩,fun ⟨x,h1,h2⟩=>⟨x,h1,decide_eq_true h2⟩⟩
  simp only [h1]
  rfl
 obtain ⟨f',hf'⟩:∃ f':Fr,f' = { f with frm:=(p:Int) }:=⟨_,rfl⟩
 have hM:Place fs f' m:=by rw [hf'];exact ⟨hm.le,fun i a hi him=>hm.lo i a hi him,fun i a hi him=>hm.hi i a hi him⟩
 have HFE:Hid (f'.kind=f.kind∧f'.frm=p∧f'.org=f.org∧f'.seq=f.seq∧f'.low=f.low∧f'.ad=f.ad∧f'.cap=f.cap∧f'.vec=f.vec∧f'.body=f.body∧f'.fm=f.fm):=by rw [hf'];exact ⟨rfl,rfl,rfl,rfl,rfl,rfl,rfl,rfl,rfl,rfl⟩
 have HAG:Hid (Fr.agg g.n f'=.agg #[.int .i64 f.kind,.int .i64 (p:Int),.int .i64 f.org,.int .i64 f.seq,.int .i64 f.low,.slice f.ad g.n f.cap,.string f.body]):=by rw [hf'];rfl
 have HKD:Hid _:=hkd
 have HVf:Hid (VecAt w g.n f'):=by rw [hf'];exact ⟨hv.ints,hv.ty⟩
 have HN:Hid _:=hN
 have HW:Hid _:=hw
 have HS:Hid _:=hs
 have HFt:Hid _:=hFt
 have HF:Hid _:=hF
 have HST:Hid _:=hst
 have HKF:Hid _:=hkf
 have HM0:Hid _:=hm
 have HM:Hid _:=hM
 have HVF:Hid _:=hvF
 have HFO:Hid _:=hfo
 have HOR:Hid _:=hor'
 have HON:Hid _:=hoN
 have HFW:Hid (∀ k,F k→k<w.heap.size):=fun k hk=>HN.out.a1k ((HFt.out k).1 hk)
 have HLT:Hid (∀ k,onB f.ad k→k<w.heap.size):=fun k hk=>by
  obtain ⟨cur,e⟩:=hv.block hk
  exact lt_of_some e
 have hal:=a00 w (.cells #[.int .i64 f.kind,.int .i64 f.frm,.int .i64 f.org,.int .i64 f.seq,.int .i64 f.low,.slice f.ad g.n f.cap,.string f.body] 45)
 have hsv:=a05 w (.int .i64 f.kind) (.int .i64 f.frm) (.int .i64 f.org) (.int .i64 f.seq) (.int .i64 f.low) (.slice f.ad g.n f.cap) (.string f.body) 45
 have hsl:Slots w.heap.size (w.alloc (.cells #[.int .i64 f.kind,.int .i64 f.frm,.int .i64 f.org,.int .i64 f.seq,.int .i64 f.low,.slice f.ad g.n f.cap,.string f.body] 45)):=a4b w _ _ rfl
 have HAL:Hid _:=hal
 have HSV:Hid _:=hsv
 have HSL:Hid _:=hsl
 clear hN hw hs hFt hF hst hkf h hm hM hv hvF hfo hal hsl hf' hkd hor hor' hoN hsv
 generalize hK:s.newK g p f.fm=K at *
 have HZ0:Hid (K=0→_):=fun h0=>a8h (hK.trans h0)
 unfold Fr.agg
 go_enter Tryz.func155,Tryz.ntmps155
 go_wp2_with fail
 generalize w.alloc (.cells #[.int .i64 f.kind,.int .i64 f.frm,.int .i64 f.org,.int .i64 f.seq,.int .i64 f.low,.slice f.ad g.n f.cap,.string f.body] 45)=X at *
 obtain ⟨s0,s1,s2,s3,s4,s5,s6,sz⟩:=HSV.out
 go_wp2_with fail
 have HNX:Hid _:=HN.out.low HAL.out
 refine (al2 A b g.n g.W g.B g.L p G.gv G.rows s.vs G.sa fs.length G.scap fs f o m HOR.out hon hp X (HW.out.s.below HAL.out) HNX.out.nb HNX.out.nv HNX.out.c6 HNX.out.fr (by omega) HM0.out ⟨hcb.1,by omega⟩ (by omega)).mono ?_
 rintro e w1 ⟨⟨v1,rfl,hv1⟩,hb1⟩
 rw [←HKe.out] at hv1
 have HV1:Hid _:=hv1
 have HB1:Hid (Below w.heap.size w w1):=bthen HAL.out hb1
 have HSL1:Hid (Slots w.heap.size w1):=HSL.out.below hb1 sz
 have HSV1:Hid _:=HSV.out.below hb1 sz
 by_cases hK0:K=0
 ·obtain rfl:v1=.nilIface:=by
   rcases hv1.how with ⟨h,_⟩ | ⟨h,_⟩ | ⟨h,_⟩
   ·exact h
   ·omega
   ·omega
  have hfz:=HSL1.out.f
  have HN1:Hid _:=HN.out.low HB1.out
  have c4:=HN1.out.nb.c4
  clear s0 s1 s2 s3 s4 s5 s6 sz hb1 hv1
  obtain ⟨s0,s1,s2,s3,s4,s5,s6,sz⟩:=HSV1.out
  go_wp2_with fail
  have HSY:Hid _:=HSV1.out.set1 (.int .i64 (p:Int))
  have HBY:Hid (Below w.heap.size w (w1.setCell ⟨w.heap.size,1,none⟩ (.int .i64 (p:Int)))):=HB1.out.setCell (Nat.le_refl _) _
  have hzY:w.heap.size<(w1.setCell ⟨w.heap.size,1,none⟩ (.int .i64 (p:Int))).heap.size:=HSY.out.z
  clear s0 s1 s2 s3 s4 s5 s6 sz c4 hfz
  generalize w1.setCell ⟨w.heap.size,1,none⟩ (.int .i64 (p:Int))=Y at *
  have HNY:Hid _:=HN.out.low HBY.out
  have HSlY:Hid _:=HW.out.low HBY.out
  have HZ:Hid (¬ (fun k=>F k∨onB f.ad k) w.heap.size):=fun hc=>by
   rcases hc with h | h
   ·have:=HFW.out _ h
    omega
   ·have:=HLT.out _ h
    omega
  have HTY:Hid _:=NAt.begin (F:=fun k=>F k∨onB f.ad k) HNY.out (fun k hk=>Or.inl ((HFt.out k).2 hk))
  have HLO:Hid (Calls Tryz.prog 195 #[.pointer (some ⟨b,0,none⟩),.int .i64 f.org,.int .i64 f.low] Y
   fun e w'=>e=.returned (.tuple #[])∧NVw w' G.gv g.n G.rows (vlow s.vs p o f.low g.n)∧Alike Y w' (fun k=>∃ q,q<g.n∧q≠p∧k=G.rows.getD q 0)):=by
   rw [HOR.out]
   exact ai9 b g.n g.W g.B g.L p G.gv G.rows s.vs o f.low Y HNY.out.nb HNY.out.nv hon hn8
  refine HLO.out.mono ?_
  rintro e w2 ⟨rfl,hv2,ha2⟩
  have HT2:Hid _:=HTY.out.aw7 hv2 ((Alike.refl Y _).trans ha2 (fun k _ ⟨q,hq,_,e⟩=>by rw [e];exact a2u HNY.out.nv hq))
  have HS2:Hid _:=HSY.out.alike ha2 (fun ⟨q,hq,_,e⟩=>HTY.out.off hzY HZ.out (a1z (by rw [e];exact a2u HNY.out.nv hq)))
  obtain ⟨s0,s1,s2,s3,s4,s5,s6,sz⟩:=HS2.out
  have HZ2:Hid (Y.heap.size≤w2.heap.size):=ha2.size
  have HVf2:Hid (VecAt w2 g.n f'):=(HVf.out.low HBY.out).alike ha2 (fun k hk ⟨q,hq,_,e⟩=>by
   rw [HFE.out.2.2.2.2.2.1] at hk
   exact (HVF.out k hk).1 ((HFt.out k).2 (a1z (by rw [e];exact a2u HN.out.nv hq))))
  clear hv2 ha2 HLO
  have HKP:Hid (Calls Tryz.prog 149 #[.pointer (some ⟨b,0,none⟩),.agg #[.int .i64 f.kind,.int .i64 (p:Int),.int .i64 f.org,.int .i64 f.seq,.int .i64 f.low,.slice f.ad g.n f.cap,.string f.body]] w2
   fun e w'=>e=.returned (.tuple #[])∧ab2 w2 w' b g.n G.sa (insF fs m f')):=by
   rw [←HAG.out]
   exact at6 b g.n G.sa fs.length G.scap fs f' m w2 HT2.out.nod.nb.ty HT2.out.nod.c6 HT2.out.nod.fr (by omega) HM.out
  go_wp2_with fail
  refine HKP.out.mono ?_
  rintro e w3 ⟨rfl,hk3⟩
  obtain ⟨G3,hN3⟩:=HT2.out.kept hk3 (fun a ha=>by
   rcases a4u ha with rfl | ha
   ·refine Or.inr ⟨HVf2.out,fun k hk hr=>?_,fun k hk=>Or.inl (Or.inr ?_)⟩
    ·rw [HFE.out.2.2.2.2.2.1] at hk
     exact (HVF.out k hk).1 ((HFt.out k).2 (a1z hr))
    ·rw [HFE.out.2.2.2.2.2.1] at hk
     exact hk
   ·exact Or.inl ha)
  have HT3:Hid _:=hN3
  have HS3:Hid _:=HS2.out.alike hk3.rest (fun hc=>HT2.out.off hzY HZ.out (a6e _ _ _ _ hc))
  have HSl3:Hid (Sl w3 A base):=HSlY.out.alike hN3.rest (fun k hk hc=>by
   rcases hc with hc | hc
   ·have:=HF.out k hc;omega
   ·have:=(HVF.out k hc).2;omega)
  clear s0 s1 s2 s3 s4 s5 s6 sz hk3 hN3 HKP
  obtain ⟨s0,s1,s2,s3,s4,s5,s6,sz⟩:=HS3.out
  have HFI:Hid (f'∈insF fs m f'):=by show _∈_;unfold insF;simp
  go_wp2_with fail
  have HPO:Hid (Calls Tryz.prog 151 #[.pointer (some ⟨b,0,none⟩),.agg #[.int .i64 f.kind,.int .i64 (p:Int),.int .i64 f.org,.int .i64 f.seq,.int .i64 f.low,.slice f.ad g.n f.cap,.string f.body],.int .i64 f.frm] w3 fun e w'=>(∃ av nv cv,e=.returned (.slice av nv cv)∧Pks w' w3.heap.size (.slice av nv cv) (passL (textM g p f.fm) p f.org f.frm g.n))∧Below w3.heap.size w3 w'):=by
   have h1:=a9z (A 1) (A 5) b g.n g.W g.B g.L p G3.gv f' f.frm w3 HSl3.out.sent HT3.out.nod.nb ((HT3.out.nod.vec f' HFI.out).1.ints) hn8 (by
    rw [HFE.out.2.2.2.2.2.2.2.2.1]
    have:=HFO.out.body
    have:=hg.B
    show f.fm.body.size≤_
    unfold maxLen
    omega)
   rw [HAG.out,a8t (HFE.out.1.trans HKD.out) HFE.out.2.1,HFE.out.2.2.2.2.2.2.2.2.2,HFE.out.2.2.1] at h1
   refine h1.mono ?_
   rintro e w' ⟨⟨v,rfl,hv⟩,hb⟩
   obtain ⟨a,c,rfl⟩:=a01 hv.own
   exact ⟨⟨a,_,c,rfl,hv⟩,hb⟩
  refine HPO.out.mono ?_
  rintro e w4 ⟨⟨av,nv,cv,rfl,hv4⟩,hb4⟩
  have HV4:Hid _:=hv4
  have HT4:Hid _:=HT3.out.low hb4
  have HLF:Hid (∀ k,G3.foot b (insF fs m f') k→k<w3.heap.size):=fun k hk=>HT3.out.nod.a1k hk
  have HZ4:Hid (Y.heap.size≤w3.heap.size∧w3.heap.size≤w4.heap.size):=⟨HT3.out.rest.size,hb4.size⟩
  have hlen3:(insF fs m f').length=fs.length+1:=a2z _ _ _ HM.out.le
  have HHO:Hid (∀ a∈insF fs m f',a.fm.Ok g):=fun a ha=>by
   rcases a4u ha with rfl | ha
   ·rw [HFE.out.2.2.2.2.2.2.2.2.2];exact HFO.out
   ·exact HS.out.st a.fm (by rw [←HST.out];exact List.mem_map_of_mem ha)
  have HLC:Hid (Clk g p (vlow s.vs p o f.low g.n) s.hs):=by
   have h1:=HFO.out.low
   have h2:=HFO.out.seq
   have h3:0≤f.low∧f.low<f.seq:=⟨h1.1,h1.2.1⟩
   have h4:f.seq≤g.L:=h2.2
   exact (HS.out.clk.lows hon (x:=f.low) (by omega)).1
  clear s0 s1 s2 s3 s4 s5 s6 sz hv4 hb4 HPO
  go_wp2_with fail
  refine (al0 b g.n g.W g.B g.L p G3.gv G3.rows (vlow s.vs p o f.low g.n) G3.sa (insF fs m f').length G3.scap (insF fs m f') G3.ha s.hs hp hn8 (by omega) (by omega) (fun a ha=>⟨(HHO.out a ha).org,by
   have:=(HHO.out a ha).seq
   have h3:1≤a.seq∧a.seq≤g.L:=this
   omega⟩) w4 (HT4.out.nod.apart hp) (HT4.out.nod.begin (fun q hq=>by have:=HLC.out.bd p q hp hq;omega))).mono ?_
  rintro e w5 ⟨rfl,vs',hs',hk5,htu,hfn⟩
  obtain ⟨G5,hN5,hsa5⟩:=HT4.out.heard hp hk5
  have HSA:Hid _:=hsa5
  have HT5:Hid _:=hN5
  have HR5:Hid (Alike w4 w5 (fun k=>k=b∨k=G3.rows.getD p 0∨onB G3.ha k)):=hk5.rest
  have HRM:Hid (runM g.n p ((insF fs m f').map Fr.fm) (insF fs m f').length (vlow s.vs p o f.low g.n) s.hs=(vs',hs')):=b2p hp htu hfn HLC.out.shp (fun a ha=>by
   obtain ⟨x,hx,rfl⟩:=List.mem_map.1 ha
   exact (HHO.out x hx).lt)
  clear hk5 htu hfn hN5 hsa5
  go_wp2_with fail
  refine (a7c b g.n g.W g.B g.L p G5.gv G5.rows vs' G5.sa (insF fs m f').length G5.scap (insF fs m f') w5 HT5.out.nod.nb HT5.out.nod.nv hn8 HT5.out.nod.c6 HT5.out.nod.fr (by omega) (fun a ha=>(HHO.out a ha).org)).mono ?_
  rintro e w6 ⟨rfl,hk6⟩
  obtain ⟨G6,hN6⟩:=HT5.out.kept hk6 (fun a ha=>Or.inl (List.mem_filter.1 ha).1)
  have HT6:Hid _:=hN6
  have HK6:Hid _:=hk6
  clear hN6 hk6
  go_wp2_with fail
  go_ret2
  have hgot:s.got g p f.fm=⟨vs',a2p g vs' (insM s.st f.fm),hs'⟩:=by
   have h1:=HRM.out
   rw [ae8 HM.out,HST.out,hlen3,hlen,HFE.out.2.2.2.2.2.2.2.2.2] at h1
   have h2:s.ran g p f.fm=(vs',hs'):=by
    unfold NS.ran
    rw [show f.fm.org.toNat=o from HON.out]
    exact h1
   unfold NS.got
   rw [h2]
  refine ⟨_,.nilIface,rfl,⟨Or.inl ⟨rfl,hK0⟩⟩,fun h=>absurd hK0 h,fun _=>⟨?_,?_,?_⟩⟩
  ·have h1:=HV4.out.alike HR5.out (fun k h1 h2 hE=>by
    have:=HLF.out k (af9 HT4.out.nod hp _ hE)
    omega)
   have h2:=h1.alike HK6.out.rest (fun k h1 h2 hE=>by
    rcases hE with rfl | hE
    ·have:=HLF.out k (a3i _ _ _)
     omega
    ·rw [HSA.out] at hE
     have:=HLF.out k (a6r hE)
     omega)
   exact h2.mono (by have:=HBY.out.size;have:=HZ4.out;omega)
  ·refine (Alike.of_below HBY.out _).trans HT6.out.rest (fun k hk hE=>hE)
  ·refine ⟨G6.foot b (keptF (gone vs' g.L g.n) (insF fs m f')),⟨G6,_,?_,?_,?_,fun _=>Iff.rfl⟩,fun k hk=>?_⟩
   ·rw [hgot]
    exact HT6.out.nod
   ·rw [a8k,ae8 HM.out,HST.out,HFE.out.2.2.2.2.2.2.2.2.2,hgot]
   ·intro a ha
    rcases a4u (List.mem_filter.1 ha).1 with rfl | ha
    ·exact ⟨HFE.out.1.trans HKD.out,HFE.out.2.1⟩
    ·exact HKF.out a ha
   ·have hz:=HBY.out.size
    rcases HT6.out.own k hk with (h | h) | h
    ·exact Or.inl h
    ·exact Or.inr (Or.inl h)
    ·exact Or.inr (Or.inr (by omega))
 ·obtain ⟨t,x,rfl⟩:∃ t x,v1=.iface t x:=by
   rcases hv1.how with ⟨_,h⟩ | ⟨_,_,_,h⟩ | ⟨_,_,_,_,h⟩
   ·exact absurd h hK0
   ·exact ⟨_,_,h⟩
   ·exact ⟨_,_,h⟩
  clear hv1
  go_wp2_with fail
  go_ret2
  exact ⟨_,_,rfl,HV1.out,fun _=>⟨rfl,HB1.out⟩,fun h=>absurd h hK0⟩
end Go.Proofs.YtabecbjfamphbaaGreatDoor
