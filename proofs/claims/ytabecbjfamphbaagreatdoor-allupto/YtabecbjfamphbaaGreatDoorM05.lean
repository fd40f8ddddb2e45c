/- A part of the proof. -/
import Derived.Test.YtabecbjfamphbaaGreatDoorM04
import Derived.Lib.QuietBelow
import Derived.Shelf.Spec.SlicesInsertGrow
import Derived.Maps.AppendAt
namespace Go.Proofs.YtabecbjfamphbaaGreatDoor
open Go.RowKit Go.Stop Go.Extern Go.Sort
set_option maxRecDepth 100000
def ordF (a b:Fr):Int:=ordI a.org a.seq b.org b.seq
structure Place (fs:List Fr) (f:Fr) (m:Nat):Prop where
 le:m≤fs.length
 lo:∀ i a,fs[i]?=some a→i<m→ordF a f<0
 hi:∀ i a,fs[i]?=some a→m≤i→0≤ordF a f
def foundAt (fs:List Fr) (f:Fr) (m:Nat):Bool:=match fs[m]? with
 | some a=>decide (ordF a f=0)
 | none=>false
set_option maxHeartbeats 1000000 in
theorem a9y (n:Nat) (ad:Option Addr) (len cap:Nat) (fs:List Fr) (f:Fr) (m:Nat) (w:World) (hr:Frs w n ad len cap fs) (hl:len≤1000) (hm:Place fs f m) :
  Calls Tryz.prog 189 #[.slice ad len cap,Fr.agg n f,.func (.func 190) #[] #[]] w
   fun e w'=>e=.returned (.tuple #[.int .i64 (m:Int),.bool (foundAt fs f m)])∧Below w.heap.size w w':=by
 have HR:Hid _:=hr
 have HM:Hid _:=hm
 have hml:=hm.le
 have hfl:=hr.flen
 have HO:Hid (∀ a w,Calls Tryz.prog 190 #[Fr.agg n a,Fr.agg n f] w fun e w'=>e=.returned (.int .i64 (ordF a f))∧Below w.heap.size w w'):=fun a w=>b3w _ _ _ _ _ _ _ _ _ _ _ _ _ _ w
 have hbox:=a05 w (.int .i64 f.kind) (.int .i64 f.frm) (.int .i64 f.org) (.int .i64 f.seq) (.int .i64 f.low) (.slice f.ad n f.cap) (.string f.body) 45
 have HBx:Hid _:=hbox
 clear hr hm hbox
 unfold Fr.agg at HO ⊢
 go_enter Tryz.func189,Tryz.ntmps189
 go_wp2_with fail
 go_loopw [9,10] (fun c d wr=>∃ i j:Nat,i≤m∧m≤j∧j≤len∧c=.int .i64 i∧d=.int .i64 j∧Below w.heap.size w wr∧Seven w.heap.size wr (.int .i64 f.kind) (.int .i64 f.frm) (.int .i64 f.org) (.int .i64 f.seq) (.int .i64 f.low) (.slice f.ad n f.cap) (.string f.body)) (fun c d _=>(intOf d).toNat-(intOf c).toNat)
 case atStart=>exact ⟨0,len,Nat.zero_le _,by omega,Nat.le_refl _,rfl,rfl,a00 _ _,HBx.out⟩
 case round =>
  obtain ⟨i,j,him,hmj,hjl,rfl,rfl,hbel,hsev⟩:=hrel
  have HBel:Hid _:=hbel
  have HSv:Hid _:=hsev
  obtain ⟨x0,x1,x2,x3,x4,x5,x6,xz⟩:=hsev
  clear hbel
  by_cases hlt:i<j
  ·have hij:(i:Int)<(j:Int):=by omega
   obtain ⟨h,hh,h1,h2⟩:∃ h:Nat,((i:Int)+(j:Int)) / 2=(h:Int)∧i≤h∧h<j:=⟨(i+j) / 2,by omega,by omega,by omega⟩
   obtain ⟨g,cur,rfl,_⟩:=HR.out.block (by omega)
   obtain ⟨a,ha⟩:∃ a,fs[h]?=some a:=⟨fs[h]'(by omega),List.getElem?_eq_getElem _⟩
   obtain ⟨s0,s1,s2,s3,s4,s5,s6⟩:=(HR.out.low HBel.out).seven (show h<len by omega) ha
   have hhl:(h:Int)<(len:Int):=by omega
   have HOc:Hid (∀ d os,Calls Tryz.prog 190 #[.agg #[.int .i64 a.kind,.int .i64 a.frm,.int .i64 a.org,.int .i64 a.seq,.int .i64 a.low,.slice a.ad n a.cap,.string a.body],.agg #[.int .i64 f.kind,.int .i64 f.frm,.int .i64 f.org,.int .i64 f.seq,.int .i64 f.low,.slice f.ad n f.cap,.string f.body]] (grow (redrawn wr d) os) fun e w''=>e=.returned (.int .i64 (ordF a f))∧∃ p:Regrown,w''=grow (redrawn wr p.d) p.os):=fun d os=>Calls.regrown_of (HO.out a _)
   have hlo:=HM.out.lo h a ha
   have hhi:=HM.out.hi h a ha
   generalize hod:ordF a f=od at *
   go_wp2_with fail
   have y0:=cell_regrown s0
   have y1:=cell_regrown s1
   have y2:=cell_regrown s2
   have y3:=cell_regrown s3
   have y4:=cell_regrown s4
   have y5:=cell_regrown s5
   have y6:=cell_regrown s6
   have z0:=cell_regrown x0
   have z1:=cell_regrown x1
   have z2:=cell_regrown x2
   have z3:=cell_regrown x3
   have z4:=cell_regrown x4
   have z5:=cell_regrown x5
   have z6:=cell_regrown x6
   clear s0 s1 s2 s3 s4 s5 s6 x0 x1 x2 x3 x4 x5 x6
   refine wp_region_quiet_below (by kernel_rfl) (by kernel_rfl) ?_
   repeat (quiet_step (first | exact HOc.out _ _))
   refine wpQuiet_nil ?_
   intro _ hw'
   obtain ⟨⟨dq,osq⟩,hw''⟩:=hw'
   subst hw''
   have hb2:=below_regrown wr dq osq
   have HB2:Hid (Below w.heap.size w (grow (redrawn wr dq) osq)):=bthen HBel.out hb2
   have HS2:Hid _:=HSv.out.below hb2 HSv.out.z
   generalize grow (redrawn wr dq) osq=w2 at *
   clear y0 y1 y2 y3 y4 y5 y6 z0 z1 z2 z3 z4 z5 z6 hb2
   all_goals
    by_cases hneg:od<0
    ·go_wp2_with fail
     go_roundw
     case rel=>exact ⟨h+1,j,by omega,hmj,hjl,by go_num,rfl,HB2.out,HS2.out⟩
     case measure=>simp [intOf];omega
    ·go_wp2_with fail
     go_roundw
     case rel=>exact ⟨i,h,him,by omega,by omega,rfl,rfl,HB2.out,HS2.out⟩
     case measure=>simp [intOf];omega
  ·have hi':m=i:=by omega
   have hj':j=i:=by omega
   subst hi'
   subst hj'
   have hij:¬ (j:Int)<(j:Int):=by omega
   by_cases hjl':j<len
   ·obtain ⟨g,cur,rfl,_⟩:=HR.out.block (by omega)
    obtain ⟨a,ha⟩:∃ a,fs[j]?=some a:=⟨fs[j]'(by omega),List.getElem?_eq_getElem _⟩
    obtain ⟨s0,s1,s2,s3,s4,s5,s6⟩:=(HR.out.low HBel.out).seven hjl' ha
    have hhl:(j:Int)<(len:Int):=by omega
    have HOc:Hid (∀ d os,Calls Tryz.prog 190 #[.agg #[.int .i64 a.kind,.int .i64 a.frm,.int .i64 a.org,.int .i64 a.seq,.int .i64 a.low,.slice a.ad n a.cap,.string a.body],.agg #[.int .i64 f.kind,.int .i64 f.frm,.int .i64 f.org,.int .i64 f.seq,.int .i64 f.low,.slice f.ad n f.cap,.string f.body]] (grow (redrawn wr d) os) fun e w''=>e=.returned (.int .i64 (ordF a f))∧∃ p:Regrown,w''=grow (redrawn wr p.d) p.os):=fun d os=>Calls.regrown_of (HO.out a _)
    have HFo:Hid (foundAt fs f j=decide (ordF a f=0)):=by show foundAt fs f j=_;unfold foundAt;rw [ha]
    generalize ordF a f=od at *
    go_wp2_with fail
    have y0:=cell_regrown s0
    have y1:=cell_regrown s1
    have y2:=cell_regrown s2
    have y3:=cell_regrown s3
    have y4:=cell_regrown s4
    have y5:=cell_regrown s5
    have y6:=cell_regrown s6
    have z0:=cell_regrown x0
    have z1:=cell_regrown x1
    have z2:=cell_regrown x2
    have z3:=cell_regrown x3
    have z4:=cell_regrown x4
    have z5:=cell_regrown x5
    have z6:=cell_regrown x6
    clear s0 s1 s2 s3 s4 s5 s6 x0 x1 x2 x3 x4 x5 x6
    refine wp_region_quiet_below (by kernel_rfl) (by kernel_rfl) ?_
    repeat (quiet_step (first | exact HOc.out _ _))
    refine wpQuiet_nil ?_
    intro _ hw'
    obtain ⟨⟨dq,osq⟩,hw''⟩:=hw'
    subst hw''
    have hb2:=below_regrown wr dq osq
    have HB2:Hid (Below w.heap.size w (grow (redrawn wr dq) osq)):=bthen HBel.out hb2
    have HS2:Hid _:=HSv.out.below hb2 HSv.out.z
    generalize grow (redrawn wr dq) osq=w2 at *
    clear y0 y1 y2 y3 y4 y5 y6 z0 z1 z2 z3 z4 z5 z6 hb2
    have hdo:decide (od=0)=(od == 0):=by cases h:od == 0<;>simp at h<;>simp [h]
    rw [hdo] at HFo
    go_wp2_with fail
    go_ret2
    exact ⟨by rw [HFo.out];rfl,HB2.out⟩
   ·have hjj:len=j:=by omega
    subst hjj
    have HFo:Hid (foundAt fs f len=false):=by show foundAt fs f len=_;unfold foundAt;rw [List.getElem?_eq_none (by omega)]
    clear hjl' hmj him hjl hml hlt x0 x1 x2 x3 x4 x5 x6 xz
    go_wp2_with fail
    go_region
    go_wp2_with fail
    go_ret2
    exact ⟨by rw [HFo.out];rfl,HBel.out.drew⟩
end Go.Proofs.YtabecbjfamphbaaGreatDoor
namespace Go.Proofs.YtabecbjfamphbaaGreatDoor
open Go.RowKit Go.Stop Go.Extern
set_option maxRecDepth 100000
theorem Tryz.a2w:(Tryz.prog.info? 45).map (fun i=>(i.zero,i.size,i.bytes))=some (some (.agg #[.int .i64 0,.int .i64 0,.int .i64 0,.int .i64 0,.int .i64 0,.slice none 0 0,.string ⟨#[]⟩]),7,80):=by kernel_rfl
theorem cells_one (n:Nat) (f:Fr):∀ v∈Fr.cells n f,v.oneCell'=true:=by
 intro v hv
 simp [Fr.cells] at hv
 rcases hv with rfl | rfl | rfl | rfl | rfl | rfl | rfl<;>rfl
theorem as8 (n:Nat) (fs:List Fr):∀ v∈frow n fs,v.oneCell'=true:=by
 intro v hv
 unfold frow at hv
 obtain ⟨f,_,hv⟩:=List.mem_flatMap.1 hv
 exact cells_one n f v hv
theorem copy7 (w:World) (ty:TypeId) (g o dLen dCap:Nat) (a:Addr) (sLen sCap:Nat) (cur:Array Value) (t:TypeId) (cs:List Value)
  (hg:w.heap[g]?=some (.cells cur t (0,0))) (hn:cs.length=Nat.min sLen dLen * 7)
  (hsrc:∀ j v,cs[j]?=some v→w.cell? (a.add j)=some v) (hfit:o+cs.length≤cur.size) (h1:∀ v∈cs,v.oneCell'=true) :
  (Builtin.copy_ #[147,147] ty #[.slice (some ⟨g,o,none⟩) dLen dCap,.slice (some a) sLen sCap]).run Tryz.prog w =
   .ok (goInt (Nat.min sLen dLen)) (w.setRow g (cur.toList.take o++cs++cur.toList.drop (o+cs.length)).toArray):=by
 have hl:=run_loadCells_list (P:=Tryz.prog) w a cs hsrc
 have hst:=run_storeCells_at Tryz.prog g o t cs 0 cur w hg (by simpa using hfit) h1
 obtain ⟨q,hq,hqz⟩:=Option.map_eq_some_iff.1 Tryz.a2w
 simp only [Prod.mk.injEq] at hqz
 obtain ⟨_,hq7,_⟩:=hqz
 rw [hn] at hl
 simp [Builtin.copy_,run_underlying Tryz.underlying147,Builtin.lenOf,Builtin.firstCells,sizeOf,typeInfo,hq,hq7,hl,hst]
end Go.Proofs.YtabecbjfamphbaaGreatDoor
namespace Go.Proofs.YtabecbjfamphbaaGreatDoor
open Go.RowKit Go.Stop Go.Extern Go.Lib
set_option maxRecDepth 100000
def insF (fs:List Fr) (i:Nat) (f:Fr):List Fr:=fs.take i++f :: fs.drop i
theorem a2z (fs:List Fr) (i:Nat) (f:Fr) (h:i≤fs.length):(insF fs i f).length=fs.length+1:=by
 unfold insF;simp;omega
theorem b53 (fs:List Fr) (f:Fr):insF fs fs.length f=fs++[f]:=by unfold insF;simp
theorem at5 (n:Nat) (fs:List Fr) (i:Nat) (f:Fr):frow n (insF fs i f)=frow n (fs.take i)++(Fr.cells n f++frow n (fs.drop i)):=by
 unfold insF
 rw [a1e]
 rfl
def OneF (w:World) (vb n:Nat) (f:Fr):Prop:=w.heap[vb]?=some (.cells (Fr.cells n f).toArray 45 (0,0))
theorem OneF.cell {w:World} {vb n:Nat} {f:Fr} (h:OneF w vb n f) (j:Nat):w.cell? ⟨vb,j,none⟩=(Fr.cells n f)[j]?:=by
 rw [cell_of_row w vb j _ _ (0,0) h];simp
structure a4t (w w':World) (n:Nat) (ad:Option Addr) (fs:List Fr) (e:Ending):Prop where
 how:∃ ad' cap',e=.returned (.slice ad' fs.length cap')∧Frs w' n ad' fs.length cap' fs∧∀ k off,ad'=some ⟨k,off,none⟩→onB ad k∨w.heap.size≤k
 rest:Alike w w' (onB ad)
theorem Alike.mono {w w':World} {E E':Nat→Prop} (h:Alike w w' E) (hE:∀ k,E k→E' k):Alike w w' E':=⟨h.size,fun k hk hn=>h.block k hk (fun he=>hn (hE k he)),h.same⟩
theorem b6d {w:World} {base n:Nat} {e:TypeId} {v:Value} {xs:List Value} (h:w.ownsRow base e 7 v n xs):∃ a c,v=.slice a n c:=by
 rcases h.2 with ⟨rfl,rfl⟩ | ⟨g,cap,cur,rfl,_⟩
 ·exact ⟨none,0,rfl⟩
 ·exact ⟨_,_,rfl⟩
theorem b3t {w w5:World} {n:Nat} {ad a5:Option Addr} {len cap c5:Nat} {fs:List Fr} {f:Fr} (hr:Frs w n ad len cap fs) (ho:w5.ownsRow 0 45 7 (.slice a5 (len+1) c5) (len+1) (frow n fs++Fr.cells n f)) (hg:w.grownBy w5 (Value.slice ad len cap).ownBlock) (hat:(Value.slice a5 (len+1) c5).ownBlock=(Value.slice ad len cap).ownBlock∨(Value.slice a5 (len+1) c5).ownBlock=some w.heap.size) :
  a4t w w5 n ad (insF fs len f) (.returned (.slice a5 (len+1) c5)):=by
 have hl:=hr.flen
 have hlen:(insF fs len f).length=len+1:=by rw [a2z _ _ _ (by omega)];omega
 have hsame:∀ k,(Value.slice ad len cap).ownBlock=some k→onB ad k:=fun k hk=>by
  cases ad with
  | none=>cases hk
  | some a =>
   rcases hr.own.2 with ⟨he,_⟩ | ⟨g,cap',cur,he,_⟩
   ·cases he
   ·cases he
    cases hk
    exact ⟨0,rfl⟩
 refine ⟨⟨a5,c5,by rw [hlen],⟨rfl,?_⟩,fun k off hk=>?_⟩,?_⟩
 ·rw [hlen,←hl,b53,a1e,hl]
  show w5.ownsRow 0 45 7 _ _ (frow n fs++(Fr.cells n f++frow n []))
  rw [show frow n []=[] from rfl,List.append_nil]
  exact ho
 ·subst hk
  rcases hat with h | h
  ·exact Or.inl (hsame k h.symm)
  ·cases h
   exact Or.inr (Nat.le_refl _)
 ·exact (Alike.a2h hg).mono (fun k hk=>hsame k hk)
set_option maxHeartbeats 1000000 in
theorem b03 (n:Nat) (ad:Option Addr) (len cap:Nat) (fs:List Fr) (vb:Nat) (f:Fr) (w:World) (hr:Frs w n ad len cap fs) (hl:len≤1000) (hv:OneF w vb n f) :
  Calls Tryz.prog 191 #[.slice ad len cap,.int .i64 (len:Int),.slice (some ⟨vb,0,none⟩) 1 1] w fun e w'=>a4t w w' n ad (insF fs len f) e:=by
 obtain ⟨i0,hi,hz0,hz1,hz2⟩:=info_parts Tryz.a2w
 have HR:Hid _:=hr
 have HV:Hid (OneF w vb n f):=hv
 have hle:=hr.b69
 clear hr hv
 by_cases hcl:len=cap
 ·subst hcl
  go_enter Tryz.func191,Tryz.ntmps191
  go_wp2_with (at_builtin;refine wpList_append_own_at _ rfl (.tmp 23) (.tmp 24) 147 rfl 0 45 i0 _ 7 80 Tryz.underlying147 hi hz0 hz1 hz2 rfl (by decide) _ _ _ rfl HR.out.own ⟨vb,0,none⟩ 1 1 (Fr.cells n f) rfl rfl ?c1 ?c2 ?c3 ?c4 ?c5 ?_)
  case c1=>intro j u hj;rw [Addr.add_lit,Nat.zero_add,OneF.cell HV.out];exact hj
  case c2=>exact cells_one n f
  case c3=>unfold maxLen;omega
  case c4=>omega
  case c5=>omega
  intro v' w5 hown' hgrow _ hat
  obtain ⟨a5,c5,hve⟩:=b6d hown'
  subst hve
  have HO:Hid _:=hown'
  have HGr:Hid _:=hgrow
  have HAt:Hid _:=hat
  clear hown' hgrow hat
  go_wp2_with fail
  go_ret
  exact b3t HR.out HO.out HGr.out HAt.out
 ·have hcl':¬ cap=len:=fun h=>hcl h.symm
  go_enter Tryz.func191,Tryz.ntmps191
  go_wp2_with (at_builtin;refine wpList_append_own_at _ rfl (.tmp 23) (.tmp 24) 147 rfl 0 45 i0 _ 7 80 Tryz.underlying147 hi hz0 hz1 hz2 rfl (by decide) _ _ _ rfl HR.out.own ⟨vb,0,none⟩ 1 1 (Fr.cells n f) rfl rfl ?c1 ?c2 ?c3 ?c4 ?c5 ?_)
  case c1=>intro j u hj;rw [Addr.add_lit,Nat.zero_add,OneF.cell HV.out];exact hj
  case c2=>exact cells_one n f
  case c3=>unfold maxLen;omega
  case c4=>omega
  case c5=>omega
  intro v' w5 hown' hgrow _ hat
  obtain ⟨a5,c5,hve⟩:=b6d hown'
  subst hve
  have HO:Hid _:=hown'
  have HGr:Hid _:=hgrow
  have HAt:Hid _:=hat
  clear hown' hgrow hat
  go_wp2_with fail
  go_ret
  exact b3t HR.out HO.out HGr.out HAt.out
theorem Tryz.b3v (w:World):(Go.sizeOf 45).run Tryz.prog w=.ok 7 w:=by
 obtain ⟨q,hq,hqz⟩:=Option.map_eq_some_iff.1 Tryz.a2w
 simp only [Prod.mk.injEq] at hqz
 simp [Go.sizeOf,typeInfo,hq,hqz.2.1]
theorem b2g {n len cap i:Nat} {fs:List Fr} {f:Fr} {cur:Array Value} (hfl:fs.length=len) (hi:i<len) (hcap:len+1≤cap) (hcs:cur.size=cap * 7) (htk:cur.toList.take (len * 7)=frow n fs) {c1 c2:List Value}
  (h1:c1=cur.toList.take ((i+1) * 7)++frow n (fs.drop i)++cur.toList.drop ((i+1) * 7+(frow n (fs.drop i)).length)) (h2:c2=c1.take (i * 7)++Fr.cells n f++c1.drop (i * 7+(Fr.cells n f).length)) :
  c1.length=cap * 7∧c2.length=cap * 7∧c2.take ((len+1) * 7)=frow n (insF fs i f):=by
 have hcl:cur.toList.length=cap * 7:=by rw [Array.length_toList];exact hcs
 have hdl:(frow n (fs.drop i)).length=7 * (len-i):=by rw [a0e,List.length_drop,hfl]
 have hfc:(Fr.cells n f).length=7:=rfl
 have hl1:c1.length=cap * 7:=by rw [h1];simp only [List.length_append,List.length_take,List.length_drop,hdl,hcl];omega
 have hl2:c2.length=cap * 7:=by rw [h2];simp only [List.length_append,List.length_take,List.length_drop,hfc,hl1];omega
 refine ⟨hl1,hl2,?_⟩
 have ht1:c1.take (i * 7)=frow n (fs.take i):=by
  rw [h1,List.append_assoc,List.take_append_of_le_length (by rw [List.length_take];omega),List.take_take,Nat.min_eq_left (by omega),a99,←htk,List.take_take,Nat.min_eq_left (by omega)]
 have ht2:c1.drop (i * 7+7)=frow n (fs.drop i)++cur.toList.drop ((i+1) * 7+7 * (len-i)):=by
  rw [h1,List.append_assoc,List.drop_left' (by rw [List.length_take];omega),hdl]
 have hti:(frow n (fs.take i)).length=i * 7:=by rw [a0e,List.length_take];omega
 rw [h2,hfc,ht1,ht2,at5,List.append_assoc,←List.append_assoc (Fr.cells n f),←List.append_assoc (frow n (fs.take i))]
 rw [List.take_left' (by simp only [List.length_append,hti,hfc,hdl];omega)]
set_option maxHeartbeats 1000000 in
theorem as1 (n:Nat) (ad:Option Addr) (len cap:Nat) (fs:List Fr) (i vb:Nat) (f:Fr) (w:World) (hr:Frs w n ad len cap fs) (hl:len≤1000) (hv:OneF w vb n f) (hi:i<len) (hcap:len+1≤cap) (hne:¬ onB ad vb) :
  Calls Tryz.prog 191 #[.slice ad len cap,.int .i64 (i:Int),.slice (some ⟨vb,0,none⟩) 1 1] w fun e w'=>a4t w w' n ad (insF fs i f) e:=by
 have hfl:=hr.flen
 obtain ⟨_,h2⟩:=hr.own
 rcases h2 with ⟨_,h0⟩ | ⟨g,cap',cur,he,hg0,hh,hnc,hcm,hcs,htk⟩
 ·omega
 cases he
 have hvg:vb≠g:=fun h=>hne ⟨0,by rw [h]⟩
 have hcm':cap≤9223372036854775807:=by unfold maxLen at hcm;omega
 have hov:∀ lb cb,(callFunc 221 #[.slice (some ⟨vb,0,none⟩) 1 1,.slice (some ⟨g,(i+1) * 7,none⟩) lb cb]).run Tryz.prog w=.ok (.value (.bool false)) w:=fun lb cb=>by
  rw [run_callFunc_extern Tryz.func221 (by kernel_rfl) (by kernel_rfl) (by kernel_rfl) (e:=Extern.SlicesOverlaps.overlaps #[147,147] #[4]) (by kernel_rfl),
   Lib.run_overlaps_apart w 147 4 45 Tryz.underlying147 7 Tryz.b3v ⟨vb,0,none⟩ ⟨g,(i+1) * 7,none⟩ 1 1 lb cb hvg 45 45 7 (cap * 7) (by unfold World.shape?;rw [hv];rfl) (by unfold World.shape?;rw [hh];show some (_,cur.size)=_;rw [hcs]) (by omega) (frozen_of_row _ _ 0 _ _ hv) (frozen_of_row _ _ 7 _ _ hv)]
  rfl
 go_enter Tryz.func191,Tryz.ntmps191
 obtain ⟨c1,hc1⟩:∃ c1,c1=cur.toList.take ((i+1) * 7)++frow n (fs.drop i)++cur.toList.drop ((i+1) * 7+(frow n (fs.drop i)).length):=⟨_,rfl⟩
 obtain ⟨c2,hc2⟩:∃ c2,c2=c1.take (i * 7)++Fr.cells n f++c1.drop (i * 7+(Fr.cells n f).length):=⟨_,rfl⟩
 obtain ⟨hl1,hl2,htk2⟩:=b2g hfl hi hcap hcs htk hc1 hc2
 have hdl:(frow n (fs.drop i)).length=7 * (len-i):=by rw [a0e,List.length_drop,hfl]
 have hcp1:∀ ty dc sc,(Builtin.copy_ #[147,147] ty #[.slice (some ⟨g,(i+1) * 7,none⟩) (len-i) dc,.slice (some ⟨g,i * 7,none⟩) (len+1-i) sc]).run Tryz.prog w.drew=.ok (goInt (Nat.min (len+1-i) (len-i))) (w.drew.setRow g c1.toArray):=fun ty dc sc=>by
  rw [hc1]
  refine copy7 w.drew ty g ((i+1) * 7) _ dc ⟨g,i * 7,none⟩ _ sc cur 45 (frow n (fs.drop i)) hh ?_ ?_ ?_ (as8 n _)
  ·rw [hdl];simp only [Nat.min_def];split<;>omega
  ·intro j v hj
   rw [Addr.add_lit]
   show w.cell? ⟨g,i * 7+j,none⟩=some v
   have hjl:=(List.getElem?_eq_some_iff.1 hj).1
   rw [cell_of_row w g (i * 7+j) cur _ (0,0) hh]
   have h3:(frow n fs)[i * 7+j]?=some v:=by
    conv=>lhs;rw [←List.take_append_drop i fs,a1e]
    rw [List.getElem?_append_right (by rw [a0e,List.length_take];omega),a0e,List.length_take,show i * 7+j-7 * min i fs.length=j by omega]
    exact hj
   rw [←htk,List.getElem?_take,if_pos (by omega)] at h3
   simpa using h3
  ·rw [hdl,hcs];omega
 have hcp2:∀ (W:World),W.heap=(w.setRow g c1.toArray).heap→∀ ty dc,(Builtin.copy_ #[147,147] ty #[.slice (some ⟨g,i * 7,none⟩) (len+1-i) dc,.slice (some ⟨vb,0,none⟩) 1 1]).run Tryz.prog W=.ok (goInt (Nat.min 1 (len+1-i))) (W.setRow g c2.toArray):=fun W hW ty dc=>by
  have hWg:W.heap[g]?=some (.cells c1.toArray 45 (0,0)):=by rw [hW];exact setRow_heap _ _ _ _ _ _ hh
  have hWv:OneF W vb n f:=by unfold OneF;rw [hW,setRow_other _ _ _ _ hvg];exact hv
  have h3:=copy7 W ty g (i * 7) (len+1-i) dc ⟨vb,0,none⟩ 1 1 c1.toArray 45 (Fr.cells n f) hWg (by show 7=_;simp only [Nat.min_def];split<;>omega) (fun j v hj=>by rw [Addr.add_lit,Nat.zero_add,OneF.cell hWv];exact hj) (by show i * 7+7≤c1.toArray.size;simp only [List.size_toArray];omega) (cells_one n f)
  rw [show c1.toArray.toList=c1 by simp,←hc2] at h3
  exact h3
 have HT:Hid _:=htk2
 have hw1:IntKind.i64.wrap ((i:Int)+1)=(i:Int)+1:=by rw [IntKind.wrap_i64];omega
 have hb1:(0:Int)≤(i:Int)+1:=by omega
 have htn:((i:Int)+1).toNat=i+1:=by omega
 have hb2:¬ (cap=i+1):=by omega
 have hb3:(i:Int)≤(len:Int)+1:=by omega
 have hb4:¬ (cap=i):=by omega
 have hin:i≤len:=by omega
 have mixed:Tryz.prog.follows .mixedOrders=true:=by kernel_rfl
 clear hc1 hc2 htk2 htk
 go_wp2_with (simp only [hov])
 go_region_law_o (refine step_copy_runI rfl _ _ 147 147 rfl _ _ (by simp [Act.eval,Act.put]) (by simp [Act.eval,Act.put]) (hcp1 _ _ _) ?_)
 have hcp3:=hcp2 (w.drew.setRow g c1.toArray) rfl 3 (cap-i)
 go_wp2_with fail
 go_ret
 have hlen:(insF fs i f).length=len+1:=by rw [a2z _ _ _ (by omega)];omega
 refine ⟨⟨some ⟨g,0,none⟩,cap,by rw [hlen];rfl,⟨rfl,?_⟩,fun k off hk=>Or.inl ⟨off,hk⟩⟩,?_⟩
 ·rw [hlen]
  refine ⟨by rw [a0e,hlen];omega,Or.inr ⟨g,cap,c2.toArray,rfl,Nat.zero_le _,setRow_heap _ _ _ _ _ _ (setRow_heap w.drew g cur c1.toArray _ _ hh),by omega,hcm,by simp [hl2],?_⟩⟩
  rw [show c2.toArray.toList=c2 by simp]
  exact HT.out
 ·refine ⟨by simp,fun k _ hk=>?_,rfl,rfl,rfl⟩
  have hkg:k≠g:=fun h=>hk ⟨0,by rw [h]⟩
  rw [setRow_other _ _ _ _ hkg,setRow_other _ _ _ _ hkg]
  rfl
theorem b4r {n len i:Nat} {fs:List Fr} {f:Fr} (hfl:fs.length=len) (hi:i<len) {G:Nat} (hG:len+1≤G) {r0 r1 r2 zs:List Value} (h0:r0=frow n (fs.take i)++zs) (hz:zs.length=7 * (G-i))
  (h1:r1=r0.take (i * 7)++Fr.cells n f++r0.drop (i * 7+(Fr.cells n f).length)) (h2:r2=r1.take ((i+1) * 7)++frow n (fs.drop i)++r1.drop ((i+1) * 7+(frow n (fs.drop i)).length)) :
  r0.length=G * 7∧r1.length=G * 7∧r2.length=G * 7∧r2.take ((len+1) * 7)=frow n (insF fs i f):=by
 have hti:(frow n (fs.take i)).length=i * 7:=by rw [a0e,List.length_take];omega
 have hdl:(frow n (fs.drop i)).length=7 * (len-i):=by rw [a0e,List.length_drop,hfl]
 have hfc:(Fr.cells n f).length=7:=rfl
 have hl0:r0.length=G * 7:=by rw [h0,List.length_append,hti,hz];omega
 have hl1:r1.length=G * 7:=by rw [h1];simp only [List.length_append,List.length_take,List.length_drop,hfc,hl0];omega
 have hl2:r2.length=G * 7:=by rw [h2];simp only [List.length_append,List.length_take,List.length_drop,hdl,hl1];omega
 refine ⟨hl0,hl1,hl2,?_⟩
 have ht0:r0.take (i * 7)=frow n (fs.take i):=by rw [h0,List.take_left' hti]
 have ht1:r1.take ((i+1) * 7)=frow n (fs.take i)++Fr.cells n f:=by
  rw [h1,ht0,List.take_left' (by rw [List.length_append,hti,hfc];omega)]
 rw [h2,ht1,at5,List.take_left' (by simp only [List.length_append,hti,hfc,hdl];omega),List.append_assoc]
set_option maxHeartbeats 1000000 in
theorem aq9 (n:Nat) (ad:Option Addr) (len cap:Nat) (fs:List Fr) (i vb:Nat) (f:Fr) (w:World) (hr:Frs w n ad len cap fs) (hl:len≤1000) (hv:OneF w vb n f) (hi:i<len) (hcap:cap<len+1) :
  Calls Tryz.prog 191 #[.slice ad len cap,.int .i64 (i:Int),.slice (some ⟨vb,0,none⟩) 1 1] w fun e w'=>a4t w w' n ad (insF fs i f) e:=by
 have hfl:=hr.flen
 obtain ⟨_,h2⟩:=hr.own
 rcases h2 with ⟨_,h0⟩ | ⟨g,cap',cur,he,hg0,hh,hnc,hcm,hcs,htk⟩
 ·omega
 cases he
 obtain ⟨i0,hi0,hz0,hzs,hzb⟩:=info_parts Tryz.a2w
 have hcl:cap=len:=by omega
 subst hcl
 have hgw:g<w.heap.size:=lt_of_some hh
 have hvw:vb<w.heap.size:=lt_of_some hv
 have hcellg:∀ j v,(frow n fs)[j]?=some v→w.cell? ⟨g,j,none⟩=some v:=fun j v hj=>by
  have hjl:=(List.getElem?_eq_some_iff.1 hj).1
  rw [a0e] at hjl
  rw [cell_of_row w g j cur _ (0,0) hh]
  rw [←htk,List.getElem?_take,if_pos (by omega)] at hj
  simpa using hj
 have hold:(Builtin.firstCells i0.size i (.slice (some ⟨g,0,none⟩) i cap)).run Tryz.prog w.drew=.ok (frow n (fs.take i)).toArray w.drew:=by
  rw [hzs]
  refine run_firstCells_some w.drew 7 i ⟨g,0,none⟩ i cap (frow n (fs.take i)) (by rw [a0e,List.length_take];omega) (fun j v hj=>?_)
  rw [Addr.add_lit,Nat.zero_add]
  show w.cell? ⟨g,j,none⟩=some v
  refine hcellg j v ?_
  rw [a99,List.getElem?_take] at hj
  split at hj
  ·exact hj
  ·cases hj
 have hik:i+(cap+1-i)=cap+1:=by omega
 obtain ⟨G,hG⟩:∃ G,G=grownCap w (cap+1) cap 45:=⟨_,rfl⟩
 obtain ⟨zs,hzs'⟩:∃ zs:List Value,zs=(Builtin.zeroCells (Value.agg #[.int .i64 0,.int .i64 0,.int .i64 0,.int .i64 0,.int .i64 0,.slice none 0 0,.string ⟨#[]⟩]).cells (cap+1-i)).toList++(Builtin.zeroCells (Value.agg #[.int .i64 0,.int .i64 0,.int .i64 0,.int .i64 0,.int .i64 0,.slice none 0 0,.string ⟨#[]⟩]).cells (G-(cap+1))).toList:=⟨_,rfl⟩
 have hGn:cap+1≤G:=by rw [hG];exact grownCap_ge w _ _ _
 have hGm:G≤maxLen:=by rw [hG];exact grownCap_le_maxLen w (cap+1) cap 45 (by unfold maxLen;omega)
 have hzl:zs.length=7 * (G-i):=by rw [hzs'];simp [Builtin.zeroCells,Value.cells];omega
 obtain ⟨r0,hr0⟩:∃ r0,r0=frow n (fs.take i)++zs:=⟨_,rfl⟩
 obtain ⟨r1,hr1⟩:∃ r1,r1=r0.take (i * 7)++Fr.cells n f++r0.drop (i * 7+(Fr.cells n f).length):=⟨_,rfl⟩
 obtain ⟨r2,hr2⟩:∃ r2,r2=r1.take ((i+1) * 7)++frow n (fs.drop i)++r1.drop ((i+1) * 7+(frow n (fs.drop i)).length):=⟨_,rfl⟩
 obtain ⟨hl0,hl1,hl2,htk2⟩:=b4r hfl hi hGn hr0 hzl hr1 hr2
 have hrz:∀ ty,(Builtin.append_ #[147,3] ty #[.slice (some ⟨g,0,none⟩) i cap,.int .i64 ((cap:Int)+1-(i:Int))]).run Tryz.prog w=.ok (.slice (some ⟨w.heap.size,0,none⟩) (cap+1) G) (w.drew.alloc (.cells r0.toArray 45)):=fun ty=>by
  have h:=Lib.run_append_grow_zeros w 147 3 ty 45 i0 _ .i64 .i64 Tryz.underlying147 Tryz.underlying3 hi0 hz0 (some ⟨g,0,none⟩) i cap (frow n (fs.take i)) hold (cap+1-i) (by omega) (by omega) (by omega) (by omega) (by rw [hzb];omega) (by rw [hzb,hik];exact growslice_fits (by omega) (by omega))
  rw [hik,←hG] at h
  rw [show (cap:Int)+1-(i:Int)=((cap+1-i:Nat):Int) by omega,h]
  congr 3
  rw [hr0,hzs']
  simp
 have hnw:w.heap.size≠g:=by omega
 have hnv:w.heap.size≠vb:=by omega
 have hdl:(frow n (fs.drop i)).length=7 * (cap-i):=by rw [a0e,List.length_drop,hfl]
 have hnew:(w.alloc (.cells r0.toArray 45)).heap[w.heap.size]?=some (.cells r0.toArray 45 (0,0)):=heap_alloc_new _ _
 have holdb:∀ k,k<w.heap.size→(w.alloc (.cells r0.toArray 45)).heap[k]?=w.heap[k]?:=fun k hk=>Below.heap_alloc _ _ _ hk
 have hcpA:∀ (W:World),W.heap=(w.alloc (.cells r0.toArray 45)).heap→∀ ty dc,(Builtin.copy_ #[147,147] ty #[.slice (some ⟨w.heap.size,i * 7,none⟩) (cap+1-i) dc,.slice (some ⟨vb,0,none⟩) 1 1]).run Tryz.prog W=.ok (goInt (Nat.min 1 (cap+1-i))) (W.setRow w.heap.size r1.toArray):=fun W hW ty dc=>by
  have hWv:OneF W vb n f:=by unfold OneF;rw [hW,holdb vb hvw];exact hv
  have h3:=copy7 W ty w.heap.size (i * 7) (cap+1-i) dc ⟨vb,0,none⟩ 1 1 r0.toArray 45 (Fr.cells n f) (by rw [hW];exact hnew) (by show 7=_;simp only [Nat.min_def];split<;>omega) (fun j v hj=>by rw [Addr.add_lit,Nat.zero_add,OneF.cell hWv];exact hj) (by show i * 7+7≤r0.toArray.size;simp only [List.size_toArray];omega) (cells_one n f)
  rw [show r0.toArray.toList=r0 by simp,←hr1] at h3
  exact h3
 have hcpB:∀ (W:World),W.heap=((w.alloc (.cells r0.toArray 45)).setRow w.heap.size r1.toArray).heap→∀ ty dc sc,(Builtin.copy_ #[147,147] ty #[.slice (some ⟨w.heap.size,(i+1) * 7,none⟩) (cap-i) dc,.slice (some ⟨g,i * 7,none⟩) (cap-i) sc]).run Tryz.prog W=.ok (goInt (Nat.min (cap-i) (cap-i))) (W.setRow w.heap.size r2.toArray):=fun W hW ty dc sc=>by
  have h3:=copy7 W ty w.heap.size ((i+1) * 7) (cap-i) dc ⟨g,i * 7,none⟩ (cap-i) sc r1.toArray 45 (frow n (fs.drop i)) (by rw [hW];exact setRow_heap _ _ _ _ _ _ hnew) (by rw [hdl];simp only [Nat.min_def];split<;>omega) (fun j v hj=>by
   rw [Addr.add_lit]
   have h5:W.heap[g]?=w.heap[g]?:=by rw [hW,setRow_other _ _ _ _ hnw.symm,holdb g hgw]
   rw [World.cell?_of_block (w:=w) h5]
   refine hcellg (i * 7+j) v ?_
   conv=>lhs;rw [←List.take_append_drop i fs,a1e]
   rw [List.getElem?_append_right (by rw [a0e,List.length_take];omega),a0e,List.length_take,show i * 7+j-7 * min i fs.length=j by omega]
   exact hj) (by rw [hdl];simp only [List.size_toArray];omega) (as8 n _)
  rw [show r1.toArray.toList=r1 by simp,←hr2] at h3
  exact h3
 have HT:Hid _:=htk2
 have hw1:IntKind.i64.wrap ((i:Int)+1)=(i:Int)+1:=by rw [IntKind.wrap_i64];omega
 have hb1:(0:Int)≤(i:Int)+1:=by omega
 have htn:((i:Int)+1).toNat=i+1:=by omega
 have hb2:¬ (G=i+1):=by omega
 have hb5:¬ (G=i):=by omega
 have hb3:(i:Int)≤(cap:Int):=by omega
 have hb4:¬ (cap=i):=by omega
 have hin:i≤cap:=by omega
 have hG63:G≤9223372036854775807:=by unfold maxLen at hGm;omega
 have mixed:Tryz.prog.follows .mixedOrders=true:=by kernel_rfl
 have hcpA1:=hcpA (w.alloc (.cells r0.toArray 45)).drew rfl 3 (G-i)
 clear hcpA hold hG hzs' hr0 hr1 hr2 htk2 htk hnew holdb hzl hik
 go_enter Tryz.func191,Tryz.ntmps191
 go_wp2_with (at_builtin;refine Lib.wpList_append_run _ rfl _ _ _ _ rfl _ _ rfl rfl _ _ (hrz _) ?_)
 go_region_law_o (refine step_copy_runI rfl _ _ 147 147 rfl (.slice (some ⟨w.heap.size,(i+1) * 7,none⟩) (cap-i) (G-(i+1))) (.slice (some ⟨g,i * 7,none⟩) (cap-i) (cap-i)) (by simp [Act.eval,Act.put]) (by simp [Act.eval,Act.put]) (hcpB (((w.alloc (.cells r0.toArray 45)).drew.setRow w.heap.size r1.toArray).drew) rfl 3 (G-(i+1)) (cap-i)) ?_)
 go_wp2_with fail
 go_ret
 have hlen:(insF fs i f).length=cap+1:=by rw [a2z _ _ _ (by omega)];omega
 refine ⟨⟨some ⟨w.heap.size,0,none⟩,G,by rw [hlen];rfl,⟨rfl,?_⟩,fun k off hk=>Or.inr (by cases hk;exact Nat.le_refl _)⟩,?_⟩
 ·rw [hlen]
  refine ⟨by rw [a0e,hlen];omega,Or.inr ⟨w.heap.size,G,r2.toArray,rfl,Nat.zero_le _,setRow_heap _ _ _ _ _ _ (setRow_heap (w.alloc (.cells r0.toArray 45)).drew w.heap.size r0.toArray r1.toArray _ _ (heap_alloc_new _ _)),by omega,hGm,by simp [hl2],?_⟩⟩
  rw [show r2.toArray.toList=r2 by simp]
  exact HT.out
 ·refine ⟨by simp,fun k hk _=>?_,rfl,rfl,rfl⟩
  have hkg:k≠w.heap.size:=by omega
  rw [setRow_other _ _ _ _ hkg]
  show ((w.alloc (.cells r0.toArray 45)).setRow w.heap.size r1.toArray).heap[k]?=_
  rw [setRow_other _ _ _ _ hkg]
  exact Below.heap_alloc _ _ _ hk
theorem az4 (n:Nat) (ad:Option Addr) (len cap:Nat) (fs:List Fr) (i vb:Nat) (f:Fr) (w:World) (hr:Frs w n ad len cap fs) (hl:len≤1000) (hv:OneF w vb n f) (hi:i≤len) (hne:¬ onB ad vb) :
  Calls Tryz.prog 191 #[.slice ad len cap,.int .i64 (i:Int),.slice (some ⟨vb,0,none⟩) 1 1] w fun e w'=>a4t w w' n ad (insF fs i f) e:=by
 by_cases h1:i=len
 ·subst h1
  exact b03 n ad i cap fs vb f w hr hl hv
 ·by_cases h2:len+1≤cap
  ·exact as1 n ad len cap fs i vb f w hr hl hv (by omega) h2 hne
  ·exact aq9 n ad len cap fs i vb f w hr hl hv (by omega) (by omega)
end Go.Proofs.YtabecbjfamphbaaGreatDoor
