/- A part of the proof. -/
import Derived.Test.YtabecbjfamphbaaGreatDoorM05
namespace Go.Proofs.YtabecbjfamphbaaGreatDoor
open Go.RowKit Go.Stop Go.Extern Go.Sort
set_option maxRecDepth 100000
theorem a0h {w:World} {b:Nat} {t:TypeId} (h:∃ cur,w.heap[b]?=some (.cells cur t (0,0))) (i:Nat):w.frozen? ⟨b,i,none⟩=false:=by
 obtain ⟨cur,h⟩:=h
 exact frozen_of_row w b i cur t h
set_option maxHeartbeats 1000000 in
theorem b1v (b n:Nat) (sa:Option Addr) (slen scap:Nat) (fs:List Fr) (f:Fr) (m:Nat) (w:World) (h6:w.cell? ⟨b,6,none⟩=some (.slice sa slen scap)) (hr:Frs w n sa slen scap fs) (hl:slen≤1000) (hm:Place fs f m) :
  Calls Tryz.prog 224 #[.pointer (some ⟨b,0,none⟩),Fr.agg n f] w fun e w'=>e=.returned (.bool (foundAt fs f m))∧Below w.heap.size w w':=by
 have hal:=a00 w (.cells #[.int .i64 f.kind,.int .i64 f.frm,.int .i64 f.org,.int .i64 f.seq,.int .i64 f.low,.slice f.ad n f.cap,.string f.body] 45)
 have hsv:=a05 w (.int .i64 f.kind) (.int .i64 f.frm) (.int .i64 f.org) (.int .i64 f.seq) (.int .i64 f.low) (.slice f.ad n f.cap) (.string f.body) 45
 have h6':=(hal.cell (p:=⟨b,6,none⟩) (lt_of_cell h6)).trans h6
 have hr':=hr.low hal
 have HAL:Hid _:=hal
 clear h6 hr hal
 have HS:Hid (∀ x,Frs x n sa slen scap fs→Calls Tryz.prog 189 #[.slice sa slen scap,.agg #[.int .i64 f.kind,.int .i64 f.frm,.int .i64 f.org,.int .i64 f.seq,.int .i64 f.low,.slice f.ad n f.cap,.string f.body],.func (.func 190) #[] #[]] x fun e w'=>e=.returned (.tuple #[.int .i64 (m:Int),.bool (foundAt fs f m)])∧Below x.heap.size x w'):=fun x hx=>a9y n sa slen scap fs f m x hx hl hm
 generalize foundAt fs f m=fo at *
 unfold Fr.agg
 go_enter Tryz.func224,Tryz.ntmps224
 go_wp2_with fail
 generalize w.alloc (.cells #[.int .i64 f.kind,.int .i64 f.frm,.int .i64 f.org,.int .i64 f.seq,.int .i64 f.low,.slice f.ad n f.cap,.string f.body] 45)=X at *
 have HSc:Hid (∀ d os,Calls Tryz.prog 189 #[.slice sa slen scap,.agg #[.int .i64 f.kind,.int .i64 f.frm,.int .i64 f.org,.int .i64 f.seq,.int .i64 f.low,.slice f.ad n f.cap,.string f.body],.func (.func 190) #[] #[]] (grow (redrawn X d) os) fun e w''=>e=.returned (.tuple #[.int .i64 (m:Int),.bool fo])∧∃ p:Regrown,w''=grow (redrawn X p.d) p.os):=fun d os=>Calls.regrown_of (HS.out _ (hr'.low (below_regrown X d os)))
 obtain ⟨s0,s1,s2,s3,s4,s5,s6,_⟩:=hsv
 have z0:=cell_regrown s0
 have z1:=cell_regrown s1
 have z2:=cell_regrown s2
 have z3:=cell_regrown s3
 have z4:=cell_regrown s4
 have z5:=cell_regrown s5
 have z6:=cell_regrown s6
 have y6:=cell_regrown h6'
 clear s0 s1 s2 s3 s4 s5 s6 h6' hr' HS
 refine wp_region_quiet_below (by kernel_rfl) (by kernel_rfl) ?_
 repeat (quiet_step (first | exact HSc.out _ _))
 refine wpQuiet_nil ?_
 intro _ hw'
 obtain ⟨⟨dq,osq⟩,hw''⟩:=hw'
 subst hw''
 have hb2:=below_regrown X dq osq
 have HB2:Hid (Below w.heap.size w (grow (redrawn X dq) osq)):=bthen HAL.out hb2
 generalize grow (redrawn X dq) osq=w2 at *
 clear z0 z1 z2 z3 z4 z5 z6 y6 hb2
 go_wp2_with fail
 go_ret
 exact ⟨rfl,HB2.out⟩
structure ab2 (w w':World) (b n:Nat) (sa:Option Addr) (fs:List Fr):Prop where
 how:∃ sa' scap',w'.cell? ⟨b,6,none⟩=some (.slice sa' fs.length scap')∧Frs w' n sa' fs.length scap' fs∧∀ k off,sa'=some ⟨k,off,none⟩→onB sa k∨w.heap.size≤k
 rest:Alike w w' (fun k=>k=b∨onB sa k)
 others:∀ i v,i≠6→w.cell? ⟨b,i,none⟩=some v→w'.cell? ⟨b,i,none⟩=some v
 ty:∃ cur,w'.heap[b]?=some (.cells cur 149 (0,0))
theorem b2y {w w3 w':World} {b n:Nat} {sa ad':Option Addr} {cap':Nat} {gs:List Fr} {u:Value} (ht:∃ cur,w.heap[b]?=some (.cells cur 149 (0,0))) (hnb:¬ onB sa b) (hb:Below w.heap.size w w3) (hrest:Alike w3 w' (onB sa)) (hfr:Frs w' n ad' gs.length cap' gs) (hnew:∀ k off,ad'=some ⟨k,off,none⟩→onB sa k∨w3.heap.size≤k) (hc:w'.cell? ⟨b,6,none⟩=some u) :
  ab2 w (w'.setCell ⟨b,6,none⟩ (.slice ad' gs.length cap')) b n sa gs:=by
 obtain ⟨cur,ht⟩:=ht
 have hbl:=lt_of_some ht
 have hsz:=hb.size
 have hty:w'.heap[b]?=some (.cells cur 149 (0,0)):=(hrest.block b (by omega) hnb).trans ((hb.block b hbl).trans ht)
 have hset:=Alike.setCell w' ⟨b,6,none⟩ (.slice ad' gs.length cap')
 refine ⟨⟨ad',cap',by go_simp,hfr.alike hset (fun g off hg he=>?_),fun k off hk=>?_⟩,?_,fun i v hi hv=>?_,⟨_,heap_setCell_same w' b 6 cur _ _ hty⟩⟩
 ·have he':g=b:=he
  subst he'
  rcases hnew g off hg with h | h
  ·exact hnb h
  ·omega
 ·rcases hnew k off hk with h | h
  ·exact Or.inl h
  ·exact Or.inr (by omega)
 ·refine ((Alike.of_below hb _).trans hrest (fun k _ h=>Or.inr h)).trans hset (fun k _ h=>Or.inl h)
 ·have hv':w'.cell? ⟨b,i,none⟩=some v:=hrest.cell ((hb.cell (p:=⟨b,i,none⟩) hbl).trans hv) hnb
  have hi':¬ i=6:=hi
  have hi2:¬ 6=i:=fun h=>hi h.symm
  go_simp
set_option maxHeartbeats 1000000 in
theorem at6 (b n:Nat) (sa:Option Addr) (slen scap:Nat) (fs:List Fr) (f:Fr) (m:Nat) (w:World) (ht:∃ cur,w.heap[b]?=some (.cells cur 149 (0,0))) (h6:w.cell? ⟨b,6,none⟩=some (.slice sa slen scap)) (hr:Frs w n sa slen scap fs) (hl:slen≤1000) (hm:Place fs f m) :
  Calls Tryz.prog 149 #[.pointer (some ⟨b,0,none⟩),Fr.agg n f] w fun e w'=>e=.returned (.tuple #[])∧ab2 w w' b n sa (insF fs m f):=by
 have hal:=a00 w (.cells #[.int .i64 f.kind,.int .i64 f.frm,.int .i64 f.org,.int .i64 f.seq,.int .i64 f.low,.slice f.ad n f.cap,.string f.body] 45)
 have hsv:=a05 w (.int .i64 f.kind) (.int .i64 f.frm) (.int .i64 f.org) (.int .i64 f.seq) (.int .i64 f.low) (.slice f.ad n f.cap) (.string f.body) 45
 have h6':=(hal.cell (p:=⟨b,6,none⟩) (lt_of_cell h6)).trans h6
 have hr':=hr.low hal
 have HAL:Hid _:=hal
 have HR:Hid _:=hr
 have H6:Hid _:=h6
 have HTY:Hid (∃ cur,w.heap[b]?=some (.cells cur 149 (0,0))):=ht
 have HNB:Hid (¬ onB sa b):=fun ⟨off,hs⟩=>by
  obtain ⟨cur,ht⟩:=ht
  rcases hr.own.2 with ⟨he,_⟩ | ⟨g,cap',cur',he,_,hh,_⟩
  ·rw [hs] at he;cases he
  ·cases he
   cases hs
   exact ty_ne ht hh (by decide) rfl
 have hml:=hm.le
 have hfl:=hr.flen
 clear h6 hr hal ht
 have HS:Hid (∀ x,Frs x n sa slen scap fs→Calls Tryz.prog 189 #[.slice sa slen scap,.agg #[.int .i64 f.kind,.int .i64 f.frm,.int .i64 f.org,.int .i64 f.seq,.int .i64 f.low,.slice f.ad n f.cap,.string f.body],.func (.func 190) #[] #[]] x fun e w'=>e=.returned (.tuple #[.int .i64 (m:Int),.bool (foundAt fs f m)])∧Below x.heap.size x w'):=fun x hx=>a9y n sa slen scap fs f m x hx hl hm
 generalize foundAt fs f m=fo at *
 unfold Fr.agg
 go_enter Tryz.func149,Tryz.ntmps149
 go_wp2_with fail
 generalize w.alloc (.cells #[.int .i64 f.kind,.int .i64 f.frm,.int .i64 f.org,.int .i64 f.seq,.int .i64 f.low,.slice f.ad n f.cap,.string f.body] 45)=X at *
 have HSc:Hid (∀ d os,Calls Tryz.prog 189 #[.slice sa slen scap,.agg #[.int .i64 f.kind,.int .i64 f.frm,.int .i64 f.org,.int .i64 f.seq,.int .i64 f.low,.slice f.ad n f.cap,.string f.body],.func (.func 190) #[] #[]] (grow (redrawn X d) os) fun e w''=>e=.returned (.tuple #[.int .i64 (m:Int),.bool fo])∧∃ p:Regrown,w''=grow (redrawn X p.d) p.os):=fun d os=>Calls.regrown_of (HS.out _ (hr'.low (below_regrown X d os)))
 have HSv:Hid _:=hsv
 obtain ⟨s0,s1,s2,s3,s4,s5,s6,_⟩:=hsv
 have z0:=cell_regrown s0
 have z1:=cell_regrown s1
 have z2:=cell_regrown s2
 have z3:=cell_regrown s3
 have z4:=cell_regrown s4
 have z5:=cell_regrown s5
 have z6:=cell_regrown s6
 have y6:=cell_regrown h6'
 clear s0 s1 s2 s3 s4 s5 s6 h6' hr' HS
 refine wp_region_quiet_below (by kernel_rfl) (by kernel_rfl) ?_
 repeat (quiet_step (first | exact HSc.out _ _))
 refine wpQuiet_nil ?_
 intro _ hw'
 obtain ⟨⟨dq,osq⟩,hw''⟩:=hw'
 subst hw''
 have hb2:=below_regrown X dq osq
 have HB2:Hid (Below w.heap.size w (grow (redrawn X dq) osq)):=bthen HAL.out hb2
 have hsv2:=HSv.out.below hb2 HSv.out.z
 generalize grow (redrawn X dq) osq=Y at *
 clear z0 z1 z2 z3 z4 z5 z6 y6 hb2 HSc
 have h6y:Y.cell? ⟨b,6,none⟩=some (.slice sa slen scap):=(HB2.out.cell (p:=⟨b,6,none⟩) (lt_of_cell H6.out)).trans H6.out
 obtain ⟨s0,s1,s2,s3,s4,s5,s6,_⟩:=hsv2
 have HV:Hid (OneF (Y.alloc (.cells #[.int .i64 f.kind,.int .i64 f.frm,.int .i64 f.org,.int .i64 f.seq,.int .i64 f.low,.slice f.ad n f.cap,.string f.body] 45)).drew Y.heap.size n f):=heap_alloc_new _ _
 have HY:Hid (Frs (Y.alloc (.cells #[.int .i64 f.kind,.int .i64 f.frm,.int .i64 f.org,.int .i64 f.seq,.int .i64 f.low,.slice f.ad n f.cap,.string f.body] 45)).drew n sa slen scap fs):=(HR.out.low HB2.out).low (a00 _ _).drew
 have HBY:Hid (Below w.heap.size w (Y.alloc (.cells #[.int .i64 f.kind,.int .i64 f.frm,.int .i64 f.org,.int .i64 f.seq,.int .i64 f.low,.slice f.ad n f.cap,.string f.body] 45)).drew):=bthen HB2.out (a00 _ _).drew
 have hnv:¬ onB sa Y.heap.size:=fun ⟨off,hs⟩=>by
  rcases HR.out.own.2 with ⟨he,_⟩ | ⟨g,cap',cur',he,_,hh,_⟩
  ·rw [hs] at he;cases he
  ·cases he
   cases hs
   have h1:=lt_of_some hh
   have h2:=HB2.out.size
   omega
 have HIn:Hid (Calls Tryz.prog 191 #[.slice sa slen scap,.int .i64 (m:Int),.slice (some ⟨Y.heap.size,0,none⟩) 1 1] (Y.alloc (.cells #[.int .i64 f.kind,.int .i64 f.frm,.int .i64 f.org,.int .i64 f.seq,.int .i64 f.low,.slice f.ad n f.cap,.string f.body] 45)).drew fun e w'=>a4t (Y.alloc (.cells #[.int .i64 f.kind,.int .i64 f.frm,.int .i64 f.org,.int .i64 f.seq,.int .i64 f.low,.slice f.ad n f.cap,.string f.body] 45)).drew w' n sa (insF fs m f) e):=az4 n sa slen scap fs m Y.heap.size f _ HY.out hl HV.out (by omega) hnv
 have hbY:b<Y.heap.size:=lt_of_cell h6y
 have h6a:∀ o,(Y.alloc o).cell? ⟨b,6,none⟩=some (.slice sa slen scap):=fun o=>((a00 Y o).cell (p:=⟨b,6,none⟩) hbY).trans h6y
 go_wp2_with fail
 go_region_with (first|(go_at_call 191;refine HIn.out.mono ?_;rintro e w' ⟨⟨ad',cap',rfl,hfr,hnew⟩,hrest⟩;have HFr:Hid _:=hfr;have HNew:Hid _:=hnew;have HRest:Hid _:=hrest;have c6':w'.cell? ⟨b,6,none⟩=some (.slice sa slen scap):=hrest.cell ((HBY.out.cell (p:=⟨b,6,none⟩) (lt_of_cell H6.out)).trans H6.out) HNB.out;have f6':w'.frozen? ⟨b,6,none⟩=false:=(hrest.frozen (b:=b) (i:=6) (Nat.lt_of_lt_of_le (lt_of_cell H6.out) HBY.out.size) ((HBY.out.frozen (p:=⟨b,6,none⟩) (lt_of_cell H6.out)).trans (a0h HTY.out 6)) HNB.out);clear hfr hnew hrest))
 all_goals
  go_wp2_with fail
  refine bodyPost_end (v:=.tuple #[]) (by simp [results,Tryz.results149,go_sem]) rfl ⟨rfl,?_⟩
  exact b2y HTY.out HNB.out HBY.out HRest.out HFr.out HNew.out c6'
end Go.Proofs.YtabecbjfamphbaaGreatDoor
