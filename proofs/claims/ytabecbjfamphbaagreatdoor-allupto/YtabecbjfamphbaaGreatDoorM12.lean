/- A part of the proof. -/
import Derived.Deep.RegionHeldLaw
import Derived.ScopeJumps
import Derived.WalkMore
import Derived.Test.YtabecbjfamphbaaGreatDoorM11
import Derived.Lib.SliceRun
import Derived.Lib.Walk
namespace Go.Proofs.YtabecbjfamphbaaGreatDoor
open Go.RowKit Go.Stop Go.Extern
set_option maxRecDepth 100000
def Wd.cells (x:Wd):List Value:=[.int .i64 x.org,.int .i64 x.seq,.string x.body]
def wrow (hs:List Wd):List Value:=hs.flatMap Wd.cells
theorem a3y (a b:List Wd):wrow (a++b)=wrow a++wrow b:=by simp [wrow]
def Fr.word (f:Fr):Wd:=⟨f.org,f.seq,f.body⟩
structure Wds (w:World) (ha:Option Addr) (len cap:Nat) (hs:List Wd):Prop where
 wlen:hs.length=len
 own:w.ownsRow 0 89 3 (.slice ha len cap) len (wrow hs)
theorem Wds.alike {w w':World} {ad:Option Addr} {len cap:Nat} {hs:List Wd} {E:Nat→Prop} (h:Wds w ad len cap hs) (ha:Alike w w' E) (hE:∀ g off,ad=some ⟨g,off,none⟩→¬ E g):Wds w' ad len cap hs:=by
 refine ⟨h.wlen,h.own.1,?_⟩
 rcases h.own.2 with h | ⟨g,cap',cur,he,hg,hh,hr⟩
 ·exact Or.inl h
 ·cases he
  exact Or.inr ⟨g,cap,cur,rfl,hg,(ha.block g (lt_of_some hh) (hE g 0 rfl)).trans hh,hr⟩
theorem ax0 {w:World} {ha:Option Addr} {hlen hcap:Nat} {hs:List Wd} (hr:Wds w ha hlen hcap hs) {k:Nat} {cur:Array Value} {t:TypeId} {fz:Nat × Nat} (hk:w.heap[k]?=some (.cells cur t fz)) (ht:t≠89):¬ onB ha k:=by
 rintro ⟨off,rfl⟩
 rcases hr.own.2 with ⟨he,_⟩ | ⟨g,cap',cur',he,_,hh,_⟩
 ·cases he
 ·cases he
  exact ty_ne hk hh ht rfl
structure au6 (w w':World) (b gp:Nat) (ha:Option Addr) (hs:List Wd):Prop where
 how:∃ ha' hcap',w'.cell? ⟨b,7,none⟩=some (.slice ha' hs.length hcap')∧Wds w' ha' hs.length hcap' hs∧∀ k off,ha'=some ⟨k,off,none⟩→onB ha k∨w.heap.size≤k
 rest:Alike w w' (fun k=>k=b∨k=gp∨onB ha k)
 others:∀ i v,i≠7→w.cell? ⟨b,i,none⟩=some v→w'.cell? ⟨b,i,none⟩=some v
 ty:∃ cur,w'.heap[b]?=some (.cells cur 149 (0,0))
theorem b6w {w Y Z w1:World} {b gp g cap hlen hcap gv n:Nat} {rows:List Nat} {vs:List (List Int)} {ha:Option Addr} {hs:List Wd} {x:Wd} {u:Value} (ht:∃ cur,w.heap[b]?=some (.cells cur 149 (0,0))) (hbgp:b≠gp) (hwd:Wds w ha hlen hcap hs)
  (hwY:Alike w Y (fun k=>k=gp)) (hYZ:Below Y.heap.size Y Z) (hgr:Z.grownBy w1 (Value.slice ha hlen hcap).ownBlock) (hat:(Value.slice ha hlen hcap).ownBlock=some g∨g=Z.heap.size)
  (how:w1.ownsRow 0 89 3 (.slice (some ⟨g,0,none⟩) (hlen+1) cap) (hlen+1) (wrow hs++x.cells)) (hc:w1.cell? ⟨b,7,none⟩=some u) (hv:NVw Y gv n rows vs) (hgp:∃ cur t,w.heap[gp]?=some (.cells cur t (0,0))∧t≠89) :
  au6 w (w1.setCell ⟨b,7,none⟩ (.slice (some ⟨g,0,none⟩) (hlen+1) cap)) b gp ha (hs++[x])∧NVw (w1.setCell ⟨b,7,none⟩ (.slice (some ⟨g,0,none⟩) (hlen+1) cap)) gv n rows vs:=by
 obtain ⟨cur,ht⟩:=ht
 obtain ⟨cg,tg,hgp,htg⟩:=hgp
 have hbl:=lt_of_some ht
 have hsz:=hYZ.size
 have hsz2:=hwY.size
 have hnb:¬ onB ha b:=ax0 hwd ht (by decide)
 have hngp:¬ onB ha gp:=ax0 hwd hgp htg
 have hrow:∀ k,(Value.slice ha hlen hcap).ownBlock=some k→onB ha k:=fun k hk=>by
  rcases hwd.own.2 with ⟨he,_⟩ | ⟨g',cap',cur',he,_,_,_⟩
  ·rw [he] at hk;cases hk
  ·cases he
   cases hk
   exact ⟨0,rfl⟩
 have hg1:Alike Z w1 (onB ha):=(Alike.refl Z _).trans (Alike.a2h hgr) (fun k _ h=>hrow k h)
 have hY1:Alike Y w1 (onB ha):=(Alike.of_below hYZ _).trans hg1 (fun _ _ h=>h)
 have htY:Y.heap[b]?=some (.cells cur 149 (0,0)):=(hwY.block b hbl hbgp).trans ht
 have hty:w1.heap[b]?=some (.cells cur 149 (0,0)):=(hY1.block b (by omega) hnb).trans htY
 have hset:=Alike.setCell w1 ⟨b,7,none⟩ (.slice (some ⟨g,0,none⟩) (hlen+1) cap)
 have hwdY:Wds Y ha hlen hcap hs:=hwd.alike hwY (fun k off hk (he:k=gp)=>hngp ⟨off,by rw [hk,he]⟩)
 have hgn:onB ha g∨Z.heap.size≤g:=by
  rcases hat with h | h
  ·exact Or.inl (hrow g h)
  ·exact Or.inr (by omega)
 have hgb:g≠b:=fun h=>by
  subst h
  rcases hgn with h | h
  ·exact hnb h
  ·omega
 have hwl:(hs++[x]).length=hlen+1:=by simp [hwd.wlen]
 have hW1:Wds w1 (some ⟨g,0,none⟩) (hlen+1) cap (hs++[x]):=⟨hwl,by rw [a3y];simpa [wrow] using how⟩
 have hbgv:gv≠b:=by
  obtain ⟨c,h⟩:=hv.ty
  exact ty_ne h htY (by decide)
 refine ⟨⟨⟨some ⟨g,0,none⟩,cap,?_,?_,fun k off hk=>?_⟩,?_,fun i v hi hvv=>?_,⟨_,heap_setCell_same w1 b 7 cur _ _ hty⟩⟩,?_⟩
 ·rw [hwl];go_simp
 ·rw [hwl]
  refine hW1.alike hset (fun k off hk he=>?_)
  cases hk
  exact hgb he
 ·cases hk
  rcases hgn with h | h
  ·exact Or.inl h
  ·exact Or.inr (by omega)
 ·exact (((Alike.refl w _).trans hwY (fun k _ h=>Or.inr (Or.inl h))).trans hY1 (fun k _ h=>Or.inr (Or.inr h))).trans hset (fun k _ h=>Or.inl h)
 ·have h1:w1.cell? ⟨b,i,none⟩=some v:=hY1.cell (hwY.cell hvv hbgp) hnb
  have hi':¬ i=7:=hi
  have hi2:¬ 7=i:=fun h=>hi h.symm
  go_simp
 ·refine (hv.alike hY1 ?_ ?_).alike hset hbgv ?_
  ·obtain ⟨c,h⟩:=hv.ty
   exact ax0 hwdY h (by decide)
  ·exact fun q hq=>ax0 hwdY (hv.each q hq) (by decide)
  ·exact fun q hq=>ty_ne (hv.each q hq) htY (by decide)
theorem Tryz.a6l:(Tryz.prog.info? 89).map (fun i=>(i.zero,i.size,i.bytes))=some (some (.agg #[.int .i64 0,.int .i64 0,.string ⟨#[]⟩]),3,32):=by kernel_rfl
set_option maxHeartbeats 1000000 in
theorem aa0 (n:Nat) (f:Fr) (w:World):Calls Tryz.prog 100 #[Fr.agg n f] w fun e w'=>e=.returned (.agg #[.int .i64 f.org,.int .i64 f.seq,.string f.body])∧Below w.heap.size w w':=by
 unfold Fr.agg
 go_enter Tryz.func100,Tryz.ntmps100
 go_wp2_with fail
 refine bodyPost_ret (v:=.agg #[.int .i64 f.org,.int .i64 f.seq,.string f.body]) (by simp [results,Tryz.results100,go_sem]) rfl ⟨rfl,a09 _ _ _⟩
set_option maxHeartbeats 2000000 in
theorem av7 (b n:Nat) (W B L:Int) (p gv:Nat) (rows:List Nat) (vs:List (List Int)) (ha:Option Addr) (hlen hcap:Nat) (hs:List Wd) (f:Fr) (o:Nat) (ho:f.org=o) (hon:o<n) (hp:p<n) (w:World) (hb:NB w b n W B L p gv) (hv:NVw w gv n rows vs) (h7:w.cell? ⟨b,7,none⟩=some (.slice ha hlen hcap)) (hw:Wds w ha hlen hcap hs) (hl:hlen≤1000000) :
  Calls Tryz.prog 150 #[.pointer (some ⟨b,0,none⟩),Fr.agg n f] w fun e w'=>e=.returned (.tuple #[])∧au6 w w' b (rows.getD p 0) ha (hs++[f.word])∧NVw w' gv n rows (vset vs p o f.seq):=by
 have HTY:Hid (∃ cur,w.heap[b]?=some (.cells cur 149 (0,0))):=hb.ty
 have HGP:Hid (∃ cur t,w.heap[rows.getD p 0]?=some (.cells cur t (0,0))∧t≠89):=⟨_,_,hv.each p hp,by decide⟩
 obtain ⟨kd,fm,org,seq,lo,ad,cp,vec,body⟩:=f
 simp only at ho
 subst ho
 have hal:=a00 w (.cells #[.int .i64 kd,.int .i64 fm,.int .i64 (o:Int),.int .i64 seq,.int .i64 lo,.slice ad n cp,.string body] 45)
 have hsv:=a05 w (.int .i64 kd) (.int .i64 fm) (.int .i64 (o:Int)) (.int .i64 seq) (.int .i64 lo) (.slice ad n cp) (.string body) 45
 have hal':Alike w _ (fun _=>False):=Alike.of_below hal _
 have hb':=hb.alike hal' (fun h=>h)
 have hv':=hv.alike hal' (fun h=>h) (fun _ _ h=>h)
 unfold Fr.agg
 simp only
 clear hal'
 have HAL:Hid _:=hal
 clear hal
 go_enter Tryz.func150,Tryz.ntmps150
 go_wp2_with fail
 generalize w.alloc (.cells #[.int .i64 kd,.int .i64 fm,.int .i64 (o:Int),.int .i64 seq,.int .i64 lo,.slice ad n cp,.string body] 45)=X at *
 have HSv:Hid _:=hsv
 obtain ⟨s0,s1,s2,s3,s4,s5,s6,sz⟩:=hsv
 have hc:=hv'.cell hp hon
 have hfz:=(hv'.each p hp).free o
 have hoi:(o:Int)<(n:Int):=by omega
 have HCl:Hid (Calls Tryz.prog 102 #[.pointer (some ⟨b,0,none⟩)] X.drew fun e w'=>e=.returned (.slice (some ⟨rows.getD p 0,0,none⟩) n n)∧∃ m,w'=X.drew.drewN m):=a2x b n W B L p gv rows vs X.drew (hb'.alike (E:=fun _=>False) (Alike.of_below (Below.refl _ _).drew _) (fun h=>h)) (hv'.alike (E:=fun _=>False) (Alike.of_below (Below.refl _ _).drew _) (fun h=>h) (fun _ _ h=>h)) hp
 generalize hgp:rows.getD p 0=gp at *
 generalize hvo:vw vs p o=y at *
 have hne:w.heap.size≠gp:=by
  intro h
  have h1:=(hv.each p hp).lt
  rw [hgp] at h1
  omega
 have hne':gp≠w.heap.size:=fun h=>hne h.symm
 go_region_held3 (fun x=>x.cell? ⟨w.heap.size,2,none⟩=some (.int .i64 (o:Int))∧x.cell? ⟨w.heap.size,3,none⟩=some (.int .i64 seq)) (first|(exact ⟨s2,s3⟩) | go_keep) (first|(go_at_call 102;refine HCl.out.mono ?_;rintro e w' ⟨rfl,m,rfl⟩))
 have hXY:Alike X ((X.drewN (1+m)).setCell ⟨gp,o,none⟩ (.int .i64 seq)) (fun k=>k=gp):=(Alike.of_below (below_drewN (Below.refl _ _) _) _).trans (Alike.setCell _ _ _) (fun _ _ h=>h)
 have HNVY:Hid (NVw ((X.drewN (1+m)).setCell ⟨gp,o,none⟩ (.int .i64 seq)) gv n rows (vset vs p o seq)):=by
  have h:=(hv'.alike (E:=fun _=>False) (w':=X.drewN (1+m)) (Alike.of_below (below_drewN (Below.refl _ _) _) _) (fun h=>h) (fun _ _ h=>h)).set (q:=p) (o:=o) hp seq
  rw [hgp] at h
  exact h
 have hbgp:b≠gp:=by
  obtain ⟨cur,ht⟩:=hb.ty
  rw [←hgp]
  exact ty_ne ht (hv.each p hp) (by decide)
 generalize (X.drewN (1+m)).setCell ⟨gp,o,none⟩ (.int .i64 seq)=Y at *
 have hbw:b<w.heap.size:=lt_of_cell h7
 have h7X:X.cell? ⟨b,7,none⟩=some (.slice ha hlen hcap):=(HAL.out.cell (p:=⟨b,7,none⟩) hbw).trans h7
 have h7Y:Y.cell? ⟨b,7,none⟩=some (.slice ha hlen hcap):=hXY.cell h7X hbgp
 have t0:=hXY.cell s0 hne
 have t1:=hXY.cell s1 hne
 have t2:=hXY.cell s2 hne
 have t3:=hXY.cell s3 hne
 have t4:=hXY.cell s4 hne
 have t5:=hXY.cell s5 hne
 have t6:=hXY.cell s6 hne
 have fY:Y.frozen? ⟨b,7,none⟩=false:=by
  obtain ⟨cur,ht⟩:=hb'.ty
  exact hXY.frozen (lt_of_some ht) (frozen_of_row X b 7 cur _ ht) hbgp
 have hWdY:Wds Y ha hlen hcap hs:=by
  refine ⟨hw.wlen,hw.own.1,?_⟩
  rcases hw.own.2 with h | ⟨g,cap',cur,he,hg,hh,hrr⟩
  ·exact Or.inl h
  ·refine Or.inr ⟨g,cap',cur,he,hg,?_,hrr⟩
   have hg1:g≠gp:=by rw [←hgp];exact ty_ne hh (hv.each p hp) (by decide)
   exact (hXY.block g (Nat.lt_of_lt_of_le (lt_of_some hh) HAL.out.size) hg1).trans ((HAL.out.block g (lt_of_some hh)).trans hh)
 have HWd:Hid _:=hWdY
 have HXY:Hid _:=hXY
 have HWY:Hid (Alike w Y (fun k=>k=gp)):=(Alike.of_below HAL.out _).trans hXY (fun _ _ h=>h)
 clear hXY hWdY s0 s1 s2 s3 s4 s5 s6 hc hfz h7X HCl
 obtain ⟨i0,hi,hz0,hz1,hz2⟩:=info_parts Tryz.a6l
 have hzY:w.heap.size<Y.heap.size:=lt_of_cell t0
 have hbY:b<Y.heap.size:=lt_of_cell h7Y
 have HK:Hid (∀ x:World,(∀ c:Nat,c<Y.heap.size→c=w.heap.size→x.heap[c]?=Y.heap[c]?)→x.cell? ⟨w.heap.size,0,none⟩=some (.int .i64 kd)∧x.cell? ⟨w.heap.size,1,none⟩=some (.int .i64 fm)∧x.cell? ⟨w.heap.size,2,none⟩=some (.int .i64 (o:Int))∧x.cell? ⟨w.heap.size,3,none⟩=some (.int .i64 seq)∧x.cell? ⟨w.heap.size,4,none⟩=some (.int .i64 lo)∧x.cell? ⟨w.heap.size,5,none⟩=some (.slice ad n cp)∧x.cell? ⟨w.heap.size,6,none⟩=some (.string body)):=fun x hx=>by
  have e:∀ i,x.cell? ⟨w.heap.size,i,none⟩=Y.cell? ⟨w.heap.size,i,none⟩:=fun i=>World.cell?_of_block (w:=Y) (hx _ hzY rfl)
  exact ⟨(e 0).trans t0,(e 1).trans t1,(e 2).trans t2,(e 3).trans t3,(e 4).trans t4,(e 5).trans t5,(e 6).trans t6⟩
 have HOwn:Hid (∀ x:World,Below Y.heap.size Y x→(x.alloc (.cells #[.int .i64 (o:Int),.int .i64 seq,.string body] 89)).ownsRow 0 89 3 (.slice ha hlen hcap) hlen (wrow hs)):=fun x hx=>by
  refine World.ownsRow.alloc ⟨HWd.out.own.1,?_⟩ _
  rcases HWd.out.own.2 with h | ⟨g,cap',cur,he,hg,hh,hrr⟩
  ·exact Or.inl h
  ·exact Or.inr ⟨g,cap',cur,he,hg,(hx.block g (lt_of_some hh)).trans hh,hrr⟩
 have hnrow:∀ (k:Nat) (cur:Array Value) (t:TypeId),Y.heap[k]?=some (.cells cur t (0,0))→t≠89→some k≠(Value.slice ha hlen hcap).ownBlock:=fun k cur t hk ht he=>by
  rcases HWd.out.own.2 with ⟨h,_⟩ | ⟨g,cap',cur',h,_,hh,_⟩
  ·rw [h] at he;cases he
  ·rw [h] at he
   cases he
   exact ty_ne hk hh ht rfl
 have hnb:some b≠(Value.slice ha hlen hcap).ownBlock:=by
  obtain ⟨cur,ht⟩:=hb'.ty
  exact hnrow b cur _ ((HXY.out.block b (lt_of_some ht) hbgp).trans ht) (by decide)
 have hnz:some w.heap.size≠(Value.slice ha hlen hcap).ownBlock:=fun he=>by
  rcases HWd.out.own.2 with ⟨h,_⟩ | ⟨g,cap',cur',h,_,hh,_⟩
  ·rw [h] at he;cases he
  ·rcases hw.own.2 with ⟨h',_⟩ | ⟨g',cap'',cur'',h',_,hh',_⟩
   ·rw [h'] at he;cases he
   ·rw [h'] at he
    cases he
    exact absurd (lt_of_some hh') (Nat.lt_irrefl _)
 have hone:∀ u∈([.int .i64 (o:Int),.int .i64 seq,.string body]:List Value),u.oneCell'=true:=by
  intro u hu
  simp at hu
  rcases hu with rfl | rfl | rfl<;>rfl
 have hml:hlen+1≤maxLen:=by unfold maxLen;omega
 have hbw2:b≠w.heap.size:=by omega
 have HWo:Hid (∀ x,Calls Tryz.prog 100 #[.agg #[.int .i64 kd,.int .i64 fm,.int .i64 (o:Int),.int .i64 seq,.int .i64 lo,.slice ad n cp,.string body]] x fun e w'=>e=.returned (.agg #[.int .i64 (o:Int),.int .i64 seq,.string body])∧Below x.heap.size x w'):=fun x=>aa0 n ⟨kd,fm,(o:Int),seq,lo,ad,cp,vec,body⟩ x
 go_wp2_with fail
 go_region_law
  (first
   | (refine step_append_lies _ rfl (.tmp 15) (.tmp 18) 62 rfl 0 89 i0 _ 3 32 Tryz.underlying62 hi hz0 hz1 hz2 rfl (by decide) (.slice ha hlen hcap) hlen (wrow hs) (by simp [Act.eval]) (HOwn.out w' HBw.out) ⟨w'.heap.size,0,none⟩ 1 1 [.int .i64 (o:Int),.int .i64 seq,.string body] (by simp [Act.eval]) rfl (World.news_of_block (heap_alloc_new w' _)) hone (by decide) hml (by omega) (Nat.zero_le _) _ rfl ?_;intro g cap w1 hown hgrow hat hlt;have HO1:Hid _:=hown;have HGr:Hid _:=hgrow;have HAt:Hid _:=hat;have HG1:Hid (∀ c:Nat,c<Y.heap.size→c=w.heap.size→w1.heap[c]?=Y.heap[c]?):=(fun c hc hcw=>(hgrow.block c (Nat.lt_of_lt_of_le hc (HBw.out.alloc HBw.out.size (.cells #[.int .i64 (o:Int),.int .i64 seq,.string body] 89)).size) (by rw [hcw];exact hnz)).trans ((HBw.out.alloc HBw.out.size (.cells #[.int .i64 (o:Int),.int .i64 seq,.string body] 89)).block c hc));have c71:w1.cell? ⟨b,7,none⟩=some (.slice ha hlen hcap):=(hgrow.cell_far ⟨b,7,none⟩ (Nat.lt_of_lt_of_le hbY (HBw.out.alloc HBw.out.size (.cells #[.int .i64 (o:Int),.int .i64 seq,.string body] 89)).size) hnb).trans (h7a _);have f71:w1.frozen? ⟨b,7,none⟩=false:=(hgrow.frozen_far ⟨b,7,none⟩ (Nat.lt_of_lt_of_le hbY (HBw.out.alloc HBw.out.size (.cells #[.int .i64 (o:Int),.int .i64 seq,.string body] 89)).size) hnb).trans (((HBw.out.alloc HBw.out.size (.cells #[.int .i64 (o:Int),.int .i64 seq,.string body] 89)).frozen (p:=⟨b,7,none⟩) hbY).trans fY);clear hown hgrow hat hlt)
   | (go_simp;go_at_call 100;refine (HWo.out _).mono ?_;rintro e w' ⟨rfl,hbw⟩;dsimp only;have HBw:Hid (Below Y.heap.size Y w'):=(Below.refl _ _).drew.trans hbw;have c7':w'.cell? ⟨b,7,none⟩=some (.slice ha hlen hcap):=(HBw.out.cell (p:=⟨b,7,none⟩) hbY).trans h7Y;have h7a:∀ o,(w'.alloc o).cell? ⟨b,7,none⟩=some (.slice ha hlen hcap):=(fun o=>((HBw.out.alloc HBw.out.size o).cell (p:=⟨b,7,none⟩) hbY).trans h7Y);clear hbw))
 all_goals
  go_wp2_with fail
  refine bodyPost_end (v:=.tuple #[]) (by simp [results,Tryz.results150,go_sem]) rfl ⟨rfl,?_⟩
  rw [hgp]
  exact b6w HTY.out hbgp hw HWY.out (HBw.out.alloc HBw.out.size _) HGr.out HAt.out HO1.out c71 HNVY.out HGP.out
def ab4 (vs:List (List Int)) (p:Nat) (v:List Int) (k:Nat):Prop:=∀ q,q<k→v.getD q 0≤vw vs p q
instance (vs:List (List Int)) (p:Nat) (v:List Int) (k:Nat):Decidable (ab4 vs p v k):=by unfold ab4;infer_instance
def isNx (vs:List (List Int)) (p n:Nat) (o:Nat) (f:Fr):Bool:=decide (f.seq=vw vs p o+1∧ab4 vs p f.vec n)
set_option maxHeartbeats 1000000 in
theorem ay7 (b n:Nat) (W B L:Int) (p gv:Nat) (rows:List Nat) (vs:List (List Int)) (f:Fr) (o:Nat) (ho:f.org=o) (hon:o<n) (hn:n≤8) (hp:p<n) (w:World) (hb:NB w b n W B L p gv) (hv:NVw w gv n rows vs) (hi:Ints w f.ad n f.vec)
  (hcb:∀ q,q<n→0≤vw vs p q∧vw vs p q≤65535) :
  Calls Tryz.prog 225 #[.pointer (some ⟨b,0,none⟩),Fr.agg n f] w fun e w'=>e=.returned (.bool (isNx vs p n o f))∧Below w.heap.size w w':=by
 obtain ⟨kd,fm,org,seq,lo,ad,cp,vec,body⟩:=f
 simp only at ho hi
 subst ho
 have hal:=a00 w (.cells #[.int .i64 kd,.int .i64 fm,.int .i64 (o:Int),.int .i64 seq,.int .i64 lo,.slice ad n cp,.string body] 45)
 have hsv:=a05 w (.int .i64 kd) (.int .i64 fm) (.int .i64 (o:Int)) (.int .i64 seq) (.int .i64 lo) (.slice ad n cp) (.string body) 45
 have ha:Alike w _ (fun _=>False):=Alike.of_below hal _
 have hb':=hb.alike ha (fun h=>h)
 have hv':=hv.alike ha (fun h=>h) (fun _ _ h=>h)
 have hi':=hi.below hal
 have HX:Hid (isNx vs p n o ⟨kd,fm,(o:Int),seq,lo,ad,cp,vec,body⟩=decide (seq=vw vs p o+1∧ab4 vs p vec n)):=rfl
 generalize isNx vs p n o ⟨kd,fm,(o:Int),seq,lo,ad,cp,vec,body⟩=res at *
 unfold Fr.agg
 simp only
 clear hb hv hi ha
 have HAL:Hid _:=hal
 clear hal
 go_enter Tryz.func225,Tryz.ntmps225
 go_wp2_with fail
 generalize w.alloc (.cells #[.int .i64 kd,.int .i64 fm,.int .i64 (o:Int),.int .i64 seq,.int .i64 lo,.slice ad n cp,.string body] 45)=X at *
 have HV:Hid _:=hv'
 have HI:Hid _:=hi'
 obtain ⟨s0,s1,s2,s3,s4,s5,s6,sz⟩:=hsv
 refine (a2x b n W B L p gv rows vs X hb' hv' hp).mono ?_
 rintro e w1 ⟨rfl,m,rfl⟩
 have hc:=HV.out.cell hp hon
 have hbd:=hcb o hon
 have hoi:(o:Int)<(n:Int):=by omega
 have HCB:Hid _:=hcb
 clear hb' hv' hi' hcb
 generalize hvo:vw vs p o=y at *
 generalize hgp:rows.getD p 0=gp at *
 have hwr:IntKind.i64.wrap (y+1)=y+1:=by rw [IntKind.wrap_i64];omega
 by_cases hseq:seq=y+1
 ·have hne:((seq:Int) != y+1)=false:=by simp [hseq]
  go_wp2_with fail
  go_quiet (fail)
  go_wp2_with fail
  go_loop [22] (fun c=>∃ k:Nat,k≤n∧c=.int .i64 k∧ab4 vs p vec k) (fun c=>n-(intOf c).toNat)
  case atStart=>exact ⟨0,Nat.zero_le _,rfl,fun q h=>absurd h (Nat.not_lt_zero _)⟩
  case round =>
   obtain ⟨k,hkn,rfl,hd⟩:=hrel
   have HD:Hid _:=hd
   clear hd
   by_cases hlt:k<n
   ·obtain ⟨c,off,rfl,_,hcc⟩:=HI.out.cell k hlt
    have hcp:=HV.out.cell hp hlt
    rw [hgp] at hcp
    have hki:(k:Int)<(n:Int):=by omega
    by_cases hle:vec.getD k 0≤vw vs p k
    ·have HS:Hid (ab4 vs p vec (k+1)):=fun q hq=>by
      rcases Nat.lt_or_ge q k with h | h
      ·exact HD.out q h
      ·obtain rfl:q=k:=by omega
       exact hle
     generalize vec.getD k 0=x at *
     generalize vw vs p k=z at *
     have hgt:¬ z<x:=by omega
     go_wp2_with fail
     go_round
     case rel=>exact ⟨k+1,by omega,by go_num,HS.out⟩
     case measure=>simp [intOf];omega
    ·have HF:Hid (res=false):=HX.out.trans <| decide_eq_false (fun h=>hle (h.2 k hlt))
     generalize vec.getD k 0=x at *
     generalize vw vs p k=z at *
     have hgt:z<x:=by omega
     go_wp2_with fail
     go_ret
     exact ⟨by rw [HF.out];rfl,by first | exact below_drewN HAL.out _ | exact below_drewN (below_drewN HAL.out _) _⟩
   ·have hkn':k=n:=by omega
    subst hkn'
    have HF:Hid (res=true):=HX.out.trans <| decide_eq_true ⟨hseq,HD.out⟩
    go_wp2_with fail
    go_ret
    exact ⟨by rw [HF.out];rfl,by first | exact below_drewN HAL.out _ | exact below_drewN (below_drewN HAL.out _) _⟩
 ·have hne:((seq:Int) != y+1)=true:=by simp [hseq]
  have HF:Hid (res=false):=HX.out.trans <| decide_eq_false (fun h=>hseq h.1)
  go_wp2_with fail
  go_quiet (fail)
  go_wp2_with fail
  go_ret
  exact ⟨by rw [HF.out];rfl,by first | exact below_drewN HAL.out _ | exact below_drewN (below_drewN HAL.out _) _⟩
theorem a9r {P:Program} {a:Act} {w:World} {Q:Exit→Act→World→Prop} {rest:Code} (l:Nat) (J:Act→World→Prop) (μ:Act→World→Nat) (h0:J a w)
  (pass:∀ a w,J a w→rest.wp P (Exit.jump l (fun a' w'=>J a' w'∧μ a' w'<μ a w) Q) a w):(Code.scope ((Code.label l).seq rest)).wp P Q a w:=
 wp_scope_jumps (rest:=Code.skip.seq rest) l J μ (by simp [findLabel])
  (wp_seq (wp_label (wp_mono (pass a w h0) (fun e a w h=>by
   cases e<;>first | exact h | exact ⟨h.1,h.2.1⟩)))) (fun a w h=>wp_seq (wp_skip (pass a w h)))
def nx (vs:List (List Int)) (p n:Nat) (f:Fr):Bool:=isNx vs p n f.org.toNat f
inductive Turns (fs:List Fr) (p n:Nat) (vs0:List (List Int)) (hs0:List Wd):List (List Int)→List Wd→Prop
 | none:Turns fs p n vs0 hs0 vs0 hs0
 | more {vs:List (List Int)} {hs:List Wd} {f:Fr}:Turns fs p n vs0 hs0 vs hs→fs.find? (nx vs p n)=some f→Turns fs p n vs0 hs0 (vset vs p f.org.toNat f.seq) (hs++[f.word])
def left (fs:List Fr) (p:Nat) (vs:List (List Int)):Nat:=fs.countP (fun f=>decide (vw vs p f.org.toNat<f.seq))
theorem b47 {α:Type} (P Q:α→Bool) (l:List α) (h:∀ x∈l,Q x=true→P x=true) (x:α) (hx:x∈l) (h1:P x=true) (h2:Q x=false):l.countP Q<l.countP P:=by
 induction l with
 | nil=>cases hx
 | cons y l ih =>
  have hm:l.countP Q≤l.countP P:=List.countP_mono_left (fun z hz=>h z (List.mem_cons_of_mem _ hz))
  rcases List.mem_cons.1 hx with rfl | hx'
  ·simp only [List.countP_cons,h1,h2]
   simp
   omega
  ·have:=ih (fun z hz=>h z (List.mem_cons_of_mem _ hz)) hx'
   have hy:=h y List.mem_cons_self
   simp only [List.countP_cons]
   cases hq:Q y
   ·simp
    omega
   ·rw [hy hq]
    simp
    omega
def a7y (x:World) (b:Nat):Nat:=match x.cell? ⟨b,7,none⟩ with | some (.slice _ l _)=>l | _=>0
theorem a8v {x:World} {b:Nat} {ad:Option Addr} {l c:Nat} (h:x.cell? ⟨b,7,none⟩=some (.slice ad l c)):a7y x b=l:=by unfold a7y;rw [h]
structure HkSt (w x:World) (b n:Nat) (W B L:Int) (p gv:Nat) (rows:List Nat) (sa:Option Addr) (slen scap:Nat) (fs:List Fr) (ha:Option Addr) (vs:List (List Int)) (hs:List Wd):Prop where
 nb:NB x b n W B L p gv
 nv:NVw x gv n rows vs
 c6:x.cell? ⟨b,6,none⟩=some (.slice sa slen scap)
 fr:Frs x n sa slen scap fs
 vec:∀ f∈fs,Ints x f.ad n f.vec
 hrd:∃ ha' hcap',x.cell? ⟨b,7,none⟩=some (.slice ha' hs.length hcap')∧Wds x ha' hs.length hcap' hs∧∀ k off,ha'=some ⟨k,off,none⟩→onB ha k∨w.heap.size≤k
 rest:Alike w x (fun k=>k=b∨k=rows.getD p 0∨onB ha k)
 others:∀ i v,i≠7→w.cell? ⟨b,i,none⟩=some v→x.cell? ⟨b,i,none⟩=some v
 bd:∀ q,q<n→0≤vw vs p q∧vw vs p q≤65535
theorem HkSt.low {w x y:World} {b n:Nat} {W B L:Int} {p gv:Nat} {rows:List Nat} {sa:Option Addr} {slen scap:Nat} {fs:List Fr} {ha:Option Addr} {vs:List (List Int)} {hs:List Wd} (h:HkSt w x b n W B L p gv rows sa slen scap fs ha vs hs) (hb:Below x.heap.size x y):HkSt w y b n W B L p gv rows sa slen scap fs ha vs hs:=by
 have hal:Alike x y (fun _=>False):=Alike.of_below hb _
 obtain ⟨ha',hcap',h7,hw,hn⟩:=h.hrd
 exact ⟨h.nb.alike hal (fun h=>h),h.nv.alike hal (fun h=>h) (fun _ _ h=>h),hal.cell h.c6 (fun h=>h),h.fr.low hb,fun f hf=>(h.vec f hf).below hb,⟨ha',hcap',hal.cell h7 (fun h=>h),hw.alike hal (fun _ _ _ h=>h),hn⟩,h.rest.trans hal (fun _ _ h=>h.elim),fun i v hi hv=>hal.cell (h.others i v hi hv) (fun h=>h),h.bd⟩
theorem Ints.alike {x y:World} {E:Nat→Prop} {ad:Option Addr} {n:Nat} {vs:List Int} (h:Ints x ad n vs) (ha:Alike x y E) (hE:∀ c off,ad=some ⟨c,off,none⟩→¬ E c):Ints y ad n vs:=
 ⟨h.len,fun i hi=>by
  obtain ⟨b,off,e,hlt,hc⟩:=h.cell i hi
  exact ⟨b,off,e,Nat.lt_of_lt_of_le hlt ha.size,ha.cell hc (hE b off e)⟩⟩
theorem HkSt.took {w x y:World} {b n:Nat} {W B L:Int} {p gv:Nat} {rows:List Nat} {sa:Option Addr} {slen scap:Nat} {fs:List Fr} {ha ha':Option Addr} {hcap':Nat} {vs:List (List Int)} {hs:List Wd} {f:Fr} {o:Nat} (h:HkSt w x b n W B L p gv rows sa slen scap fs ha vs hs) (hp:p<n) (hon:o<n)
  (hap:∀ f∈fs,∀ c off,f.ad=some ⟨c,off,none⟩→c<w.heap.size∧c≠b∧c≠rows.getD p 0∧¬ onB ha c) (hnew:∀ k off,ha'=some ⟨k,off,none⟩→onB ha k∨w.heap.size≤k) (hwd:Wds x ha' hs.length hcap' hs)
  (ht:au6 x y b (rows.getD p 0) ha' (hs++[f.word])) (hv:NVw y gv n rows (vset vs p o f.seq)) (hsq:0≤f.seq∧f.seq≤65535):HkSt w y b n W B L p gv rows sa slen scap fs ha (vset vs p o f.seq) (hs++[f.word]):=by
 obtain ⟨cb,hcb⟩:=h.nb.ty
 have hnsb:¬ onB sa b:=a6d h.fr hcb (by decide)
 have hnsg:¬ onB sa (rows.getD p 0):=a6d h.fr (h.nv.each p hp) (by decide)
 have hnsh:∀ k,onB ha' k→¬ onB sa k:=fun k hk=>by
  obtain ⟨off,he⟩:=hk
  rcases hwd.own.2 with ⟨he',_⟩ | ⟨g,cap',cur',he',_,hh,_⟩
  ·injection he' with e
   rw [e] at he
   cases he
  ·injection he' with e
   rw [e] at he
   cases he
   exact a6d h.fr hh (by decide)
 have hha:∀ k,k<w.heap.size→onB ha' k→onB ha k:=fun k hk ⟨off,he⟩=>by
  rcases hnew k off he with h | h
  ·exact h
  ·omega
 have o0:∀ i v,i≠7→x.cell? ⟨b,i,none⟩=some v→y.cell? ⟨b,i,none⟩=some v:=ht.others
 refine ⟨⟨o0 _ _ (by decide) h.nb.c0,o0 _ _ (by decide) h.nb.c1,o0 _ _ (by decide) h.nb.c2,o0 _ _ (by decide) h.nb.c3,o0 _ _ (by decide) h.nb.c4,o0 _ _ (by decide) h.nb.c5,ht.ty⟩,hv,o0 _ _ (by decide) h.c6,?_,?_,?_,?_,fun i v hi hv=>o0 i v hi (h.others i v hi hv),?_⟩
 ·refine h.fr.alike ht.rest (fun g off hg hE=>?_)
  rcases hE with rfl | rfl | hE
  ·exact hnsb ⟨off,hg⟩
  ·exact hnsg ⟨off,hg⟩
  ·exact hnsh g hE ⟨off,hg⟩
 ·intro f' hf'
  refine (h.vec f' hf').alike ht.rest (fun c off hc hE=>?_)
  obtain ⟨h1,h2,h3,h4⟩:=hap f' hf' c off hc
  rcases hE with h | h | h
  ·exact h2 h
  ·exact h3 h
  ·exact h4 (hha c h1 h)
 ·obtain ⟨ha2,hc2,e1,e2,e3⟩:=ht.how
  refine ⟨ha2,hc2,e1,e2,fun k off hk=>?_⟩
  rcases e3 k off hk with ⟨off',h'⟩ | h'
  ·exact hnew k off' h'
  ·exact Or.inr (Nat.le_trans h.rest.size h')
 ·refine h.rest.trans ht.rest (fun k hk hE=>?_)
  rcases hE with h | h | h
  ·exact Or.inl h
  ·exact Or.inr (Or.inl h)
  ·exact Or.inr (Or.inr (hha k hk h))
 ·intro q hq
  by_cases hqo:q=o
  ·subst hqo
   have:vw (vset vs p q f.seq) p q=f.seq:=by
    unfold vw vset
    rw [a1q,if_pos ⟨rfl,by rw [h.nv.vlen];exact hp⟩,a1q,if_pos ⟨rfl,by rw [h.nv.elen p hp];exact hon⟩]
   rw [this]
   exact hsq
  ·have:vw (vset vs p o f.seq) p q=vw vs p q:=by
    unfold vw vset
    rw [a1q,if_pos ⟨rfl,by rw [h.nv.vlen];exact hp⟩,a1q,if_neg (fun h=>hqo h.1.symm)]
   rw [this]
   exact h.bd q hq
theorem ay1 {fs:List Fr} {D:Fr→Bool} {k:Nat} {f:Fr} (h:∀ j f,j<k→fs[j]?=some f→D f=false) (hf:fs[k]?=some f) (hD:D f=true):fs.find? D=some f:=by
 obtain ⟨hk,he⟩:=List.getElem?_eq_some_iff.1 hf
 rw [List.find?_eq_some_iff_getElem]
 refine ⟨hD,k,hk,he,fun j hj=>?_⟩
 rw [h j _ hj (List.getElem?_eq_getElem (by omega))]
 rfl
theorem b6u {n:Nat} {fs:List Fr} {p:Nat} {x:World} {gv:Nat} {rows:List Nat} {vs:List (List Int)} (hv:NVw x gv n rows vs) (hp:p<n) {f:Fr} {o:Nat} (ho:f.org=o) (hon:o<n) (hf:f∈fs) (hx:isNx vs p n o f=true):left fs p (vset vs p o f.seq)<left fs p vs:=by
 have hs:f.seq=vw vs p o+1:=(of_decide_eq_true hx).1
 have hoo:vw (vset vs p o f.seq) p o=f.seq:=by
  unfold vw vset
  rw [a1q,if_pos ⟨rfl,by rw [hv.vlen];exact hp⟩,a1q,if_pos ⟨rfl,by rw [hv.elen p hp];exact hon⟩]
 have hno:∀ q,q≠o→vw (vset vs p o f.seq) p q=vw vs p q:=fun q hq=>by
  unfold vw vset
  rw [a1q,if_pos ⟨rfl,by rw [hv.vlen];exact hp⟩,a1q,if_neg (fun h=>hq h.1.symm)]
 unfold left
 refine b47 _ _ fs (fun g _ hg=>?_) f hf ?_ ?_
 ·have hg':=of_decide_eq_true hg
  refine decide_eq_true ?_
  by_cases hq:g.org.toNat=o
  ·rw [hq] at hg' ⊢
   omega
  ·rw [hno _ hq] at hg'
   exact hg'
 ·refine decide_eq_true ?_
  rw [ho,Int.toNat_natCast]
  omega
 ·refine decide_eq_false ?_
  rw [ho,Int.toNat_natCast,hoo]
  omega
set_option maxHeartbeats 2000000 in
theorem al0 (b n:Nat) (W B L:Int) (p gv:Nat) (rows:List Nat) (vs:List (List Int)) (sa:Option Addr) (slen scap:Nat) (fs:List Fr) (ha:Option Addr) (hs:List Wd) (hp:p<n) (hn:n≤8) (hl:slen≤1000) (hhl:hs.length≤600000)
  (ho:∀ f∈fs,(∃ o:Nat,f.org=o∧o<n)∧0≤f.seq∧f.seq≤65535) (w:World) (hap:∀ f∈fs,∀ c off,f.ad=some ⟨c,off,none⟩→c<w.heap.size∧c≠b∧c≠rows.getD p 0∧¬ onB ha c)
  (hst:HkSt w w b n W B L p gv rows sa slen scap fs ha vs hs) :
  Calls Tryz.prog 196 #[.pointer (some ⟨b,0,none⟩)] w fun e w'=>e=.returned (.tuple #[])∧∃ vs' hs',HkSt w w' b n W B L p gv rows sa slen scap fs ha vs' hs'∧Turns fs p n vs hs vs' hs'∧fs.find? (nx vs' p n)=none:=by
 have HO:Hid _:=ho
 have HAP:Hid _:=hap
 go_enter Tryz.func196,Tryz.ntmps196
 refine a9r 0 (fun a' x=>∃ (vs':List (List Int)) (hs':List Wd) (u3 u4 u5 u6 u7 u8 u9 u10 u11 u12 u13 u14 u15 u16 u17 u18 u19:Value),a' = { tmps:=#[.pointer (some ⟨b,0,none⟩),undef,undef,u3,u4,u5,u6,u7,u8,u9,u10,u11,u12,u13,u14,u15,u16,u17,u18,u19],defers:=[] }∧HkSt w x b n W B L p gv rows sa slen scap fs ha vs' hs'∧Turns fs p n vs hs vs' hs'∧hs'.length+left fs p vs'≤hs.length+fs.length) (fun _ x=>hs.length+fs.length-a7y x b) ⟨vs,hs,_,_,_,_,_,_,_,_,_,_,_,_,_,_,_,_,_,rfl,hst,.none,Nat.add_le_add_left List.countP_le_length _⟩ ?_
 clear hst
 rintro a' x ⟨vs',hs',u3,u4,u5,u6,u7,u8,u9,u10,u11,u12,u13,u14,u15,u16,u17,u18,u19,rfl,hst,htn,hlf⟩
 have HST:Hid _:=hst
 have HTN:Hid _:=htn
 have HLF:Hid _:=hlf
 have c6:=hst.c6
 have hfl:=hst.fr.flen
 clear hst htn hlf
 go_wp2_with fail
 go_loopw [9] (fun c wr=>∃ k:Nat,k≤slen∧c=.int .i64 k∧(∀ j f,j<k→fs[j]?=some f→nx vs' p n f=false)∧Below x.heap.size x wr) (fun c _=>slen-(intOf c).toNat)
 case atStart=>exact ⟨0,Nat.zero_le _,rfl,fun j f h=>absurd h (Nat.not_lt_zero _),Below.refl _ _⟩
 case round =>
  obtain ⟨k,hkn,rfl,hno,hbel⟩:=hrel
  have HNo:Hid _:=hno
  have HBel:Hid _:=hbel
  clear hno hbel
  by_cases hlt:k<slen
  ·have HSW:=HST.out.low HBel.out
   obtain ⟨g,cur,rfl,_⟩:=HSW.fr.block (by omega)
   obtain ⟨f,hf⟩:∃ f,fs[k]?=some f:=⟨fs[k]'(by omega),List.getElem?_eq_getElem _⟩
   obtain ⟨s0,s1,s2,s3,s4,s5,s6⟩:=HSW.fr.seven hlt hf
   have hki:(k:Int)<(slen:Int):=by omega
   have HSWH:Hid _:=HSW
   have hal:=a00 wr (.cells #[.int .i64 f.kind,.int .i64 f.frm,.int .i64 f.org,.int .i64 f.seq,.int .i64 f.low,.slice f.ad n f.cap,.string f.body] 45)
   have hsv:=a05 wr (.int .i64 f.kind) (.int .i64 f.frm) (.int .i64 f.org) (.int .i64 f.seq) (.int .i64 f.low) (.slice f.ad n f.cap) (.string f.body) 45
   have HAL:Hid _:=hal
   have HSV:Hid _:=hsv
   clear HSW ho hap hal hsv
   have hfm:=List.mem_of_getElem? hf
   obtain ⟨⟨o,hof,hon⟩,hsq⟩:=HO.out f hfm
   have HSQ:Hid _:=hsq
   have hnxe:nx vs' p n f=isNx vs' p n o f:=by unfold nx;rw [hof,Int.toNat_natCast]
   have HOF:Hid _:=hof
   have HNE:Hid _:=hnxe
   clear hsq hof hnxe
   go_wp2_with fail
   have HSX:Hid _:=HSWH.out.low HAL.out
   clear s0 s1 s2 s3 s4 s5 s6
   generalize wr.alloc (.cells #[.int .i64 f.kind,.int .i64 f.frm,.int .i64 f.org,.int .i64 f.seq,.int .i64 f.low,.slice f.ad n f.cap,.string f.body] 45)=X at *
   refine (ay7 b n W B L p gv rows vs' f o HOF.out hon hn hp X HSX.out.nb HSX.out.nv (HSX.out.vec f hfm) HSX.out.bd).mono ?_
   rintro e w1 ⟨rfl,hb1⟩
   have HB1:Hid (Below x.heap.size x w1):=bthen (bthen HBel.out HAL.out) hb1
   have HS1:Hid _:=HSX.out.low hb1
   obtain ⟨s0,s1,s2,s3,s4,s5,s6,sz⟩:=HSV.out
   have t0:=(hb1.cell (p:=⟨wr.heap.size,0,none⟩) (lt_of_cell s0)).trans s0
   have t1:=(hb1.cell (p:=⟨wr.heap.size,1,none⟩) (lt_of_cell s1)).trans s1
   have t2:=(hb1.cell (p:=⟨wr.heap.size,2,none⟩) (lt_of_cell s2)).trans s2
   have t3:=(hb1.cell (p:=⟨wr.heap.size,3,none⟩) (lt_of_cell s3)).trans s3
   have t4:=(hb1.cell (p:=⟨wr.heap.size,4,none⟩) (lt_of_cell s4)).trans s4
   have t5:=(hb1.cell (p:=⟨wr.heap.size,5,none⟩) (lt_of_cell s5)).trans s5
   have t6:=(hb1.cell (p:=⟨wr.heap.size,6,none⟩) (lt_of_cell s6)).trans s6
   clear s0 s1 s2 s3 s4 s5 s6 sz hb1
   cases hx:isNx vs' p n o f with
   | true =>
    have HTU:Hid (Turns fs p n vs hs (vset vs' p o f.seq) (hs'++[f.word])):=by
     have h:=Turns.more (f:=f) HTN.out (ay1 HNo.out hf (HNE.out.trans hx))
     rw [HOF.out,Int.toNat_natCast] at h
     exact h
    have HLT:Hid (left fs p (vset vs' p o f.seq)<left fs p vs'):=b6u HS1.out.nv hp HOF.out hon hfm hx
    go_wp2_with fail
    obtain ⟨ha',hcap',h7,hwd,hnew⟩:=HS1.out.hrd
    have hlf:=HLF.out
    have h7x:a7y x b=hs'.length:=by
     obtain ⟨_,_,e,_⟩:=HST.out.hrd
     exact a8v e
    refine (av7 b n W B L p gv rows vs' ha' hs'.length hcap' hs' f o HOF.out hon hp w1 HS1.out.nb HS1.out.nv h7 hwd (by omega)).mono ?_
    rintro e w2 ⟨rfl,htk,hnv⟩
    have HS2:Hid _:=HS1.out.took hp hon HAP.out hnew hwd htk hnv HSQ.out
    clear htk hnv
    go_wp2_with fail
    go_step3
    refine ⟨rfl,⟨_,_,_,_,_,_,_,_,_,_,_,_,_,_,_,_,_,_,_,rfl,HS2.out,HTU.out,?_⟩,?_⟩
    ·have:=HLT.out
     simp
     omega
    ·obtain ⟨_,_,e,_⟩:=HS2.out.hrd
     have:=HLT.out
     rw [a8v e,h7x]
     simp
     omega
   | false =>
    go_wp2_with fail
    go_roundw
    case rel=>exact ⟨k+1,by omega,by go_num,fun j f' hj hf'=>by
     rcases Nat.lt_or_ge j k with h | h
     ·exact HNo.out j f' h hf'
     ·obtain rfl:j=k:=by omega
      rw [hf] at hf'
      cases hf'
      exact HNE.out.trans hx,HB1.out⟩
    case measure=>simp [intOf];omega
  ·have hkn':k=slen:=by omega
   subst hkn'
   go_wp2_with fail
   simp only [Exit.jump]
   refine bodyPost_end (v:=.tuple #[]) (by simp [results,Tryz.results196,go_sem]) rfl ⟨rfl,vs',hs',HST.out.low HBel.out,HTN.out,?_⟩
   rw [List.find?_eq_none]
   intro f hf
   obtain ⟨j,hj⟩:=List.mem_iff_getElem?.1 hf
   rw [HNo.out j f (by have:=(List.getElem?_eq_some_iff.1 hj).1;omega) hj]
   decide
def irow (vs:List Int):List Value:=vs.map (fun x=>.int .i64 x)
theorem Tryz.b3q:(Tryz.prog.info? 3).map (fun i=>(i.zero,i.size,i.bytes))=some (some (.int .i64 0),1,8):=by kernel_rfl
set_option maxHeartbeats 1000000 in
theorem a3x (a:Addr) (n cap:Nat) (vs:List Int) (w:World) (hi:Ints w (some a) n vs) (h0:0<n) (hn:n≤1000) :
  Calls Tryz.prog 101 #[.slice (some a) n cap] w fun e w'=>(∃ v,e=.returned v∧w'.ownsRow w.heap.size 3 1 v n (irow vs))∧Below w.heap.size w w':=by
 obtain ⟨b,off,ea,_,_⟩:=hi.cell 0 h0
 cases ea
 have HNw:Hid (∀ (x:World),Below w.heap.size w x→∀ (j:Nat) (u:Value),(irow vs)[j]?=some u→x.cell? ((⟨b,off,none⟩:Addr).add j)=some u):=fun x hx j u hu=>by
  have hadd:(⟨b,off,none⟩:Addr).add j=⟨b,off+j,none⟩:=by unfold Addr.add;split<;>simp_all
  have hj:j<n:=by
   have:=(List.getElem?_eq_some_iff.1 hu).1
   simp [irow] at this
   rw [hi.len] at this
   exact this
  obtain ⟨b',off',e,hlt,hc⟩:=hi.cell j hj
  cases e
  rw [hadd]
  refine ((hx.cell (p:=⟨b,off+j,none⟩) hlt).trans hc).trans ?_
  simp [irow] at hu
  rw [←hi.len] at hj
  obtain ⟨x',hx',rfl⟩:=hu
  simp [List.getD_eq_getElem?_getD,hx']
 have HL:Hid ((irow vs).length=n * 1):=(show _=_ by simp [irow,hi.len])
 have H1:Hid (∀ u∈irow vs,u.oneCell'=true):=fun u hu=>by
  simp [irow] at hu
  obtain ⟨x,_,rfl⟩:=hu
  rfl
 clear hi
 obtain ⟨i1,hj,hy0,hy1,hy2⟩:=info_parts Tryz.b3q
 have hnil:=fun w=>Lib.run_eql_slice_nil (P:=Tryz.prog) w 34 3 (some ⟨b,off,none⟩) n cap 0 0 Tryz.underlying34
 go_enter Tryz.func101,Tryz.ntmps101
 go_wp2_with (at_builtin;refine wpList_append_own _ rfl _ _ 34 rfl w.heap.size 3 i1 (.int .i64 0) 1 8 Tryz.underlying34 hj hy0 hy1 hy2 rfl (by decide) _ _ _ rfl (World.ownsRow_made w #[] 0 (Nat.le_refl _) (Nat.zero_le _) rfl) ⟨b,off,none⟩ n cap (irow vs) rfl HL.out (HNw.out _ (a00 w _)) H1.out ?q4 ?q5 ?q6 ?_)
 case q4=>unfold maxLen;omega
 case q5=>omega
 case q6=>simp
 intro v' w1 hown hgrow _
 have HO:Hid (w1.ownsRow w.heap.size 3 1 v' n (irow vs)):=(show w1.ownsRow w.heap.size 3 1 v' n (irow vs) by simpa using hown)
 have HB:Hid (Below w.heap.size w w1):=(a00 w _).grown hgrow (by simp) (fun k hk=>by cases hk;exact Nat.le_refl _)
 obtain ⟨a4,c4,hg4⟩:=a01 HO.out
 subst hg4
 clear hown hgrow
 go_wp2_with fail
 go_ret
 exact ⟨⟨_,rfl,HO.out⟩,HB.out⟩
def byt (s:ByteArray) (i:Nat):Nat:=(s.data.toList.getD i 0).toNat
theorem a1m (s:ByteArray) (i:Nat) (h:i<s.size):byt s i=s[i].toNat:=by
 unfold byt
 rw [List.getD_eq_getElem?_getD,List.getElem?_eq_getElem (by simpa using h)]
 rfl
theorem at7 (s:ByteArray) (i:Nat):byt s i<256:=by
 unfold byt
 exact UInt8.toNat_lt _
def val (s:ByteArray) (p:Nat):Nat→Nat
 | 0=>0
 | k+1=>val s p k * 256+byt s (p+k)
theorem b35 (s:ByteArray) (p k:Nat):val s p k<256 ^ k:=by
 induction k with
 | zero=>simp [val]
 | succ k ih=>have:=at7 s (p+k);rw [Nat.pow_succ];unfold val;omega
theorem b2o (s:ByteArray) (p k:Nat) (hk:k≤4):val s p k<4294967296:=by
 have h1:=b35 s p k
 have h2:256 ^ k≤256 ^ 4:=Nat.pow_le_pow_right (by omega) hk
 omega
theorem a6t (s:ByteArray) (p:Nat):val s p 2<65536:=b35 s p 2
theorem b76 {v b:Nat} (hv:v<16777216) (hb:b<256):bits .or .i64 ((v:Int) * 256) (b:Int)=((v * 256+b:Nat):Int):=by
 have hx:v * 256 ||| b=v * 256+b:=by
  have:=Nat.two_pow_add_eq_or_of_lt (i:=8) (b:=b) (by omega) v
  rw [show (2:Nat) ^ 8=256 from rfl] at this
  rw [Nat.mul_comm v 256]
  omega
 have o:∀ n:Nat,n<4611686018427387904→(BitVec.ofInt 64 (n:Int)).toNat=n:=fun n hn=>by
  rw [BitVec.ofInt_natCast,BitVec.toNat_ofNat];exact Nat.mod_eq_of_lt (by omega)
 have e:(v:Int) * 256=((v * 256:Nat):Int):=by simp
 rw [e]
 show IntKind.i64.wrap ((BitVec.ofInt 64 ((v * 256:Nat):Int) ||| BitVec.ofInt 64 (b:Int)).toNat:Int)=_
 rw [BitVec.toNat_or,o _ (by omega),o _ (by omega),hx]
 generalize hc:v * 256+b=c
 have:c<4294967296:=by omega
 simp only [IntKind.wrap,IntKind.bits,IntKind.signed]
 simp
 omega
set_option maxHeartbeats 1000000 in
theorem a9s (s:ByteArray) (p k:Nat) (w:World) (hs:s.size≤maxLen) (hk:k≤4) (hp:p+k≤s.size) :
  Calls Tryz.prog 211 #[.string s,.int .i64 p,.int .i64 k] w fun e w'=>e=.returned (.int .i64 (val s p k))∧w'=w:=by
 unfold maxLen at hs
 have hk4:(k:Int)≤4:=by omega
 go_enter Tryz.func211,Tryz.ntmps211
 go_wp2
 go_loop [7,10] (fun v c=>∃ j:Nat,j≤k∧c=.int .i64 j∧v=.int .i64 (val s p j)) (fun _ c=>k-(intOf c).toNat)
 case atStart=>exact ⟨0,Nat.zero_le _,rfl,rfl⟩
 case round =>
  obtain ⟨j,hj,rfl,rfl⟩:=hrel
  have hv:=b2o s p j (by omega)
  by_cases hlt:j<k
  ·have hv3:val s p j<16777216:=by
    have h1:=b35 s p j
    have h2:256 ^ j≤256 ^ 3:=Nat.pow_le_pow_right (by omega) (by omega)
    omega
   have hidx:p+j<s.size:=by omega
   have HS:Hid (val s p (j+1)=val s p j * 256+s[p+j].toNat):=by show val s p j * 256+byt s (p+j)=_;rw [a1m s (p+j) hidx]
   have hb:=s[p+j].toNat_lt
   generalize val s p j=v at *
   go_wp2
   go_round
   case rel=>exact ⟨j+1,by omega,by go_num,a3u (by rw [HS.out];exact b76 hv3 hb)⟩
   case measure=>simp [intOf];omega
  ·have:j=k:=by omega
   subst this
   go_wp2
   go_ret
   exact ⟨rfl,rfl⟩
set_option maxHeartbeats 1000000 in
theorem am3 (s:ByteArray) (p k:Nat) (w:World) (hs:s.size≤maxLen) (hk:k≤4) (hp:p+k≤s.size) :
  Calls Tryz.prog 201 #[.string s,.int .i64 p,.int .i64 k] w fun e w'=>e=.returned (.int .i64 (val s p k))∧w'=w:=by
 unfold maxLen at hs
 have hk4:(k:Int)≤4:=by omega
 go_enter Tryz.func201,Tryz.ntmps201
 go_wp2
 go_loop [7,8] (fun v c=>∃ j:Nat,j≤k∧c=.int .i64 ((p:Int)+j)∧v=.int .i64 (val s p j)) (fun _ c=>p+k-(intOf c).toNat)
 case atStart=>exact ⟨0,Nat.zero_le _,by simp,rfl⟩
 case round =>
  obtain ⟨j,hj,rfl,rfl⟩:=hrel
  have hv:=b2o s p j (by omega)
  by_cases hlt:j<k
  ·have hidx:p+j<s.size:=by omega
   have HS:Hid (val s p (j+1)=val s p j * 256+s[p+j].toNat):=by show val s p j * 256+byt s (p+j)=_;rw [a1m s (p+j) hidx]
   have hb:=s[p+j].toNat_lt
   generalize val s p j=v at *
   go_wp2
   go_round
   case rel=>exact ⟨j+1,by omega,a3u (by omega),a3u (by rw [HS.out];omega)⟩
   case measure=>simp [intOf];omega
  ·have:j=k:=by omega
   subst this
   go_wp2
   go_ret
   exact ⟨rfl,rfl⟩
set_option maxHeartbeats 400000 in
theorem a3n (N W B L:Int) (h1:2≤N) (h2:N≤8) (w:World) :
  Calls Tryz.prog 208 #[.agg #[.int .i64 N,.int .i64 W,.int .i64 B,.int .i64 L]] w fun e w'=>e=.returned (.int .i64 (9+2 * N))∧Below w.heap.size w w':=by
 go_enter Tryz.func208,Tryz.ntmps208
 go_wp2
 go_ret
 exact ⟨rfl,a00 _ _⟩
set_option maxHeartbeats 400000 in
theorem ad7 (N W B L:Int) (h1:2≤N) (h2:N≤8) (w:World) :
  Calls Tryz.prog 232 #[.agg #[.int .i64 N,.int .i64 W,.int .i64 B,.int .i64 L]] w fun e w'=>e=.returned (.int .i64 (15+2 * N))∧Below w.heap.size w w':=by
 go_enter Tryz.func232,Tryz.ntmps232
 go_wp2_with fail
 refine (a3n N W B L h1 h2 _).mono ?_
 rintro e w' ⟨rfl,hb⟩
 have HB:Hid _:=hb
 clear hb
 go_wp2
 go_ret
 exact ⟨ao6 (by omega),bthen (a00 _ _) HB.out⟩
def marked (s:ByteArray):Bool:=decide (byt s 0=104∧byt s 1=115)
theorem ext2 (s:ByteArray) (h:2≤s.size):((s.extract 0 2).toList == [104,115])=marked s:=by
 obtain ⟨⟨l⟩⟩:=s
 match l,h with
 | a :: b :: r,_ =>
  have e:(ByteArray.extract ⟨⟨a :: b :: r⟩⟩ 0 2).toList=[a,b]:=by
   rw [ByteArray.toList_eq,ByteArray.data_extract]
   simp
  rw [e,Bool.eq_iff_iff]
  simp [marked,byt,←UInt8.toNat_inj]
set_option maxHeartbeats 400000 in
theorem ab0 (s:ByteArray) (w:World) (h:2≤s.size) (hs:s.size≤maxLen) :
  Calls Tryz.prog 210 #[.string s,.string { data:=#[104,115] }] w fun e w'=>e=.returned (.bool (marked s))∧w'=w:=by
 unfold maxLen at hs
 have hi:(2:Int)≤(s.size:Int):=by omega
 have h2:ByteArray.size { data:=#[104,115] }=2:=rfl
 go_enter Tryz.func210,Tryz.ntmps210
 go_wp2
 go_ret
 rw [←ext2 s h]
 exact ⟨rfl,rfl⟩
end Go.Proofs.YtabecbjfamphbaaGreatDoor
