/- A part of the proof. -/
import Derived.Test.YtabecbjfamphbaaGreatDoorM35
import Derived.Test.YtabecbjfamphbaaGreatDoorM36
import Derived.ArgAppend
import Derived.Laws.IdiomCopy
import Derived.Deep.Upon
namespace Go.Proofs.YtabecbjfamphbaaGreatDoor
open Go.RowKit Go.Stop Go.Extern
set_option maxRecDepth 100000
set_option maxHeartbeats 2000000
theorem b55 (A:Nat→Addr) (base fb b:Nat) (g:Gr) (p:Nat) (s:NS) (F:Nat→Prop) (q:Int) (hg:g.Ok) (hs:s.Ok g p) (w:World) (hc:w.cell? ⟨fb,0,none⟩=some (.pointer (some ⟨b,0,none⟩))) (hw:Sl w A base) (h:a0m w b g p s F) :
  Calls Tryz.prog 119 #[.pointer (some ⟨fb,0,none⟩),.int .i64 q] w fun e w'=>(∃ v,e=.returned (.tuple #[v,.int .i64 (viewK g.n q:Int)])∧w'.ownsRow w.heap.size 3 1 v (s.view g q).length (irow (s.view g q)))∧Below w.heap.size w w':=by
 have HC:Hid _:=aj4 A base b g p s F q hg hs w hw h
 have HW:Hid _:=hw
 clear h hw hs
 generalize s.view g q=vw0 at *
 generalize viewK g.n q=kk at *
 go_enter Tryz.func119,Tryz.ntmps119
 go_wp2_with fail
 refine (show Calls _ _ _ _ _ from HC.out).mono ?_
 rintro e w1 ⟨⟨v,er,rfl,he,hv⟩,hb1⟩
 obtain ⟨av,cv,hsh⟩:=a01 hv
 subst hsh
 have HE:Hid _:=he
 have HV:Hid _:=hv
 have HB1:Hid (Below w.heap.size w w1):=hb1
 have HS1:Hid _:=HW.out.low hb1
 clear he hv hb1
 go_wp2_with fail
 refine (a0c A er kk HE.out w1 HS1.out.s).mono ?_
 rintro e w2 ⟨rfl,hb2⟩
 have HB2:Hid (Below w.heap.size w w2):=bthen HB1.out hb2
 have HV2:Hid _:=a1a HV.out hb2
 clear hb2
 go_wp2_with fail
 go_ret2
 exact ⟨⟨_,rfl,HV2.out⟩,HB2.out⟩
theorem b8e (A:Nat→Addr) (base:Nat) (N W B L p:Int) (hk:a0d N W B L p≠0) (w:World) (hw:Sl w A base) :
  Calls Tryz.prog 27 #[.agg #[.int .i64 N,.int .i64 W,.int .i64 B,.int .i64 L],.int .i64 p] w fun e w'=>e=.returned (.tuple #[.pointer none,.int .i64 (a0d N W B L p:Int)])∧Below w.heap.size w w':=by
 have HW:Hid _:=hw
 have HNw:Hid (∀ y,Below w.heap.size w y→Calls Tryz.prog 52 #[.agg #[.int .i64 N,.int .i64 W,.int .i64 B,.int .i64 L],.int .i64 p] y fun e w'=>(∃ t d,e=.returned (.tuple #[.pointer none,.iface t d])∧a0l A (.iface t d) (a0d N W B L p))∧Below y.heap.size y w'):=fun y hy=>by
  refine (a5i A base N W B L p y (hw.low hy)).mono ?_
  rintro e w' ⟨⟨v,er,rfl,he,hno,_⟩,hb⟩
  have hv:=hno hk
  subst hv
  rcases he.how with ⟨_,h⟩ | ⟨_,_,x,rfl⟩ | ⟨_,_,x,y,rfl⟩
  ·exact absurd h hk
  ·exact ⟨⟨_,_,rfl,he⟩,hb⟩
  ·exact ⟨⟨_,_,rfl,he⟩,hb⟩
 clear hw hk
 generalize a0d N W B L p=kk at *
 go_enter Tryz.func27,Tryz.ntmps27
 go_wp2_with fail
 have HX:Hid _:=a00 w (.cells #[.int .i64 N,.int .i64 W,.int .i64 B,.int .i64 L] 26)
 generalize w.alloc (.cells #[.int .i64 N,.int .i64 W,.int .i64 B,.int .i64 L] 26)=X at *
 refine (show Calls _ _ _ _ _ from HNw.out X HX.out).mono ?_
 rintro e w1 ⟨⟨t,d,rfl,he⟩,hb1⟩
 have HE:Hid _:=he
 have HB1:Hid (Below w.heap.size w w1):=bthen HX.out hb1
 have HS1:Hid _:=HW.out.low HB1.out
 clear he hb1
 go_wp2_with fail
 refine (a0c A _ kk HE.out w1 HS1.out.s).mono ?_
 rintro e w2 ⟨rfl,hb2⟩
 have HB2:Hid (Below w.heap.size w w2):=bthen HB1.out hb2
 clear hb2
 go_wp2_with fail
 go_ret2
 exact ⟨rfl,HB2.out⟩
theorem a9t (ba bb:Nat) (aa ab:Option Addr) (ca cb:Nat) (ws:List Wd) (hl:ws.length≤1000000) (w:World) (ha:Wrd w ba (.slice aa ws.length ca) ws) (hb:Wrd w bb (.slice ab ws.length cb) ws) :
  Calls Tryz.prog 113 #[.slice aa ws.length ca,.slice ab ws.length cb] w fun e w'=>e=.returned (.bool true)∧Below w.heap.size w w':=by
 have HA:Hid (∀ y,Below w.heap.size w y→Lies y w.heap.size aa ws):=fun y hy=>ha.lies hy
 have HB:Hid (∀ y,Below w.heap.size w y→Lies y w.heap.size ab ws):=fun y hy=>hb.lies hy
 clear ha hb
 go_enter Tryz.func113,Tryz.ntmps113
 go_wp2_with fail
 go_loopw [5] (fun c wr=>∃ k:Nat,k≤ws.length∧c=.int .i64 k∧Below w.heap.size w wr) (fun c _=>ws.length-(intOf c).toNat)
 case atStart=>exact ⟨0,Nat.zero_le _,rfl,Below.refl _ _⟩
 case round =>
  obtain ⟨k,hkn,rfl,hb⟩:=hrel
  have HBw:Hid (Below w.heap.size w wr):=hb
  clear hb
  by_cases hlt:k<ws.length
  ·have hki:(k:Int)<(ws.length:Int):=by omega
   obtain ⟨t,ht⟩:∃ t,ws[k]?=some t:=⟨ws[k],List.getElem?_eq_getElem _⟩
   obtain ⟨ga,hga,_,a0,a1,a2⟩:=HA.out wr HBw.out k t ht
   obtain ⟨gb,hgb,_,b0,b1,b2⟩:=HB.out wr HBw.out k t ht
   subst hga hgb
   obtain ⟨to',tq,tb⟩:=t
   simp only at a0 a1 a2 b0 b1 b2
   clear ht
   go_wp2_with fail
   go_quiet (fail)
   go_wp2_with fail
   go_roundw
   case rel=>exact ⟨k+1,by omega,by go_num,by first | exact HBw.out | exact HBw.out.drew | exact below_drewN HBw.out _⟩
   case measure=>simp [intOf];omega
  ·have hkn':k=ws.length:=by omega
   subst hkn'
   go_wp2_with fail
   go_ret
   exact ⟨rfl,HBw.out⟩
theorem a7r (ba bb:Nat) (aa ab:Option Addr) (ca cb:Nat) (ps:List Pk) (hl:ps.length≤1000000) (w:World) (ha:Pks w ba (.slice aa ps.length ca) ps) (hb:Pks w bb (.slice ab ps.length cb) ps) :
  Calls Tryz.prog 169 #[.slice aa ps.length ca,.slice ab ps.length cb] w fun e w'=>e=.returned (.bool true)∧Below w.heap.size w w':=by
 have HA:Hid (∀ y,Below w.heap.size w y→Pks y ba (.slice aa ps.length ca) ps):=fun y hy=>ha.alike (Alike.of_below hy (fun _=>False)) (fun _ _ _ h=>h)
 have HB:Hid (∀ y,Below w.heap.size w y→Pks y bb (.slice ab ps.length cb) ps):=fun y hy=>hb.alike (Alike.of_below hy (fun _=>False)) (fun _ _ _ h=>h)
 clear ha hb
 go_enter Tryz.func169,Tryz.ntmps169
 go_wp2_with fail
 go_loopw [5] (fun c wr=>∃ k:Nat,k≤ps.length∧c=.int .i64 k∧Below w.heap.size w wr) (fun c _=>ps.length-(intOf c).toNat)
 case atStart=>exact ⟨0,Nat.zero_le _,rfl,Below.refl _ _⟩
 case round =>
  obtain ⟨k,hkn,rfl,hb⟩:=hrel
  have HBw:Hid (Below w.heap.size w wr):=hb
  clear hb
  by_cases hlt:k<ps.length
  ·have hki:(k:Int)<(ps.length:Int):=by omega
   obtain ⟨t,ht⟩:∃ t,ps[k]?=some t:=⟨ps[k],List.getElem?_eq_getElem _⟩
   obtain ⟨ga,hga,_,a0,a1⟩:=(HA.out wr HBw.out).get ht
   obtain ⟨gb,hgb,_,b0,b1⟩:=(HB.out wr HBw.out).get ht
   subst hga hgb
   obtain ⟨tn,tx⟩:=t
   simp only at a0 a1 b0 b1
   clear ht
   go_wp2_with fail
   go_quiet (fail)
   go_wp2_with fail
   go_roundw
   case rel=>exact ⟨k+1,by omega,by go_num,by first | exact HBw.out | exact HBw.out.drew | exact below_drewN HBw.out _⟩
   case measure=>simp [intOf];omega
  ·have hkn':k=ps.length:=by omega
   subst hkn'
   go_wp2_with fail
   go_ret
   exact ⟨rfl,HBw.out⟩
def mbody (n:Nat):ByteArray:=⟨#[109,97,114,107]⟩++txt (num n 8)
def mword (n:Nat):List Value:=[.int .i64 (-1000-(n:Int)),.int .i64 (-1000-(n:Int)),.string (mbody n)]
def mpack (n:Nat):List Value:=[.int .i64 (-1000-(n:Int)),.string (mbody n)]
theorem a7e (n:Nat) (hn:n≤1000000) (w:World) :
  Calls Tryz.prog 134 #[.int .i64 (n:Int)] w fun e w'=>e=.returned (.agg #[.int .i64 (-1000-(n:Int)),.int .i64 (-1000-(n:Int)),.string (mbody n)])∧Below w.heap.size w w':=by
 have HM:Hid (∀ x,Calls Tryz.prog 133 #[.int .i64 (n:Int)] x fun e w'=>e=.returned (.int .i64 (-1000-(n:Int)))∧w'=x):=fun x=>a1g (n:Int) x (by omega) (by omega)
 have HN:Hid (∀ x,Calls Tryz.prog 178 #[.int .i64 (n:Int),.int .i64 8] x fun e w'=>e=.returned (.string (txt (num n 8)))∧Below x.heap.size x w'):=fun x=>a3w n 8 x (by omega) (by omega)
 have HBd:Hid ((⟨#[109,97,114,107]⟩:ByteArray)++txt (num n 8)=mbody n):=rfl
 have HX:Hid (Below w.heap.size w (w.alloc (.cells #[.int .i64 0,.int .i64 0,.string ⟨#[]⟩] 89))):=a00 w _
 have HXt:Hid ((w.alloc (.cells #[.int .i64 0,.int .i64 0,.string ⟨#[]⟩] 89)).heap[w.heap.size]?=some (.cells #[.int .i64 0,.int .i64 0,.string ⟨#[]⟩] 89 (0,0))):=heap_alloc_new _ _
 have hts:(txt (num n 8)).size=8:=by rw [a2d,a0j]
 generalize txt (num n 8)=tn at *
 generalize mbody n=mb at *
 go_enter Tryz.func134,Tryz.ntmps134
 go_wp2_with fail
 generalize w.alloc (.cells #[.int .i64 0,.int .i64 0,.string ⟨#[]⟩] 89)=X at *
 refine (show Calls _ _ _ _ _ from HM.out X).mono ?_
 rintro e w' ⟨rfl,rfl⟩
 go_wp2_with fail
 refine (show Calls _ _ _ _ _ from HM.out _).mono ?_
 rintro e w'' ⟨rfl,rfl⟩
 go_wp2_with fail
 refine (show Calls _ _ _ _ _ from HN.out _).mono ?_
 rintro e w1 ⟨rfl,hb1⟩
 have hz:w.heap.size<w''.heap.size:=lt_of_some HXt.out
 have ht:w1.heap[w.heap.size]?=some (.cells #[.int .i64 0,.int .i64 0,.string ⟨#[]⟩] 89 (0,0)):=(hb1.block _ hz).trans HXt.out
 have HB1:Hid (Below w.heap.size w w1):=bthen HX.out hb1
 have q0:w1.cell? ⟨w.heap.size,0,none⟩=some (.int .i64 0):=cell_of_row w1 _ 0 _ _ (0,0) ht
 have q1:w1.cell? ⟨w.heap.size,1,none⟩=some (.int .i64 0):=cell_of_row w1 _ 1 _ _ (0,0) ht
 have q2:w1.cell? ⟨w.heap.size,2,none⟩=some (.string ⟨#[]⟩):=cell_of_row w1 _ 2 _ _ (0,0) ht
 have f0:w1.frozen? ⟨w.heap.size,0,none⟩=false:=frozen_of_row w1 _ 0 _ _ ht
 have f1:w1.frozen? ⟨w.heap.size,1,none⟩=false:=frozen_of_row w1 _ 1 _ _ ht
 have f2:w1.frozen? ⟨w.heap.size,2,none⟩=false:=frozen_of_row w1 _ 2 _ _ ht
 clear hb1 ht
 go_wp2_with fail
 have HBE:Hid (Below w.heap.size w (((w1.setCell ⟨w.heap.size,0,none⟩ (.int .i64 (-1000-(n:Int)))).setCell ⟨w.heap.size,1,none⟩ (.int .i64 (-1000-(n:Int)))).setCell ⟨w.heap.size,2,none⟩ (.string (⟨#[109,97,114,107]⟩++tn)))):=((HB1.out.setCell (Nat.le_refl _) _).setCell (Nat.le_refl _) _).setCell (Nat.le_refl _) _
 rw [←HBd.out]
 refine bodyPost_ret (v:=.agg #[.int .i64 (-1000-(n:Int)),.int .i64 (-1000-(n:Int)),.string (⟨#[109,97,114,107]⟩++tn)]) ?_ rfl ⟨rfl,HBE.out⟩
 simp [results,Tryz.results134,go_sem]
 go_simp
theorem a5f (n:Nat) (hn:n≤1000000) (w:World) :
  Calls Tryz.prog 135 #[.int .i64 (n:Int)] w fun e w'=>e=.returned (.agg #[.int .i64 (-1000-(n:Int)),.string (mbody n)])∧Below w.heap.size w w':=by
 have HM:Hid (∀ x,Calls Tryz.prog 133 #[.int .i64 (n:Int)] x fun e w'=>e=.returned (.int .i64 (-1000-(n:Int)))∧w'=x):=fun x=>a1g (n:Int) x (by omega) (by omega)
 have HN:Hid (∀ x,Calls Tryz.prog 178 #[.int .i64 (n:Int),.int .i64 8] x fun e w'=>e=.returned (.string (txt (num n 8)))∧Below x.heap.size x w'):=fun x=>a3w n 8 x (by omega) (by omega)
 have HBd:Hid ((⟨#[109,97,114,107]⟩:ByteArray)++txt (num n 8)=mbody n):=rfl
 have HX:Hid (Below w.heap.size w (w.alloc (.cells #[.int .i64 0,.string ⟨#[]⟩] 109))):=a00 w _
 have HXt:Hid ((w.alloc (.cells #[.int .i64 0,.string ⟨#[]⟩] 109)).heap[w.heap.size]?=some (.cells #[.int .i64 0,.string ⟨#[]⟩] 109 (0,0))):=heap_alloc_new _ _
 have hts:(txt (num n 8)).size=8:=by rw [a2d,a0j]
 generalize txt (num n 8)=tn at *
 generalize mbody n=mb at *
 go_enter Tryz.func135,Tryz.ntmps135
 go_wp2_with fail
 generalize w.alloc (.cells #[.int .i64 0,.string ⟨#[]⟩] 109)=X at *
 refine (show Calls _ _ _ _ _ from HM.out X).mono ?_
 rintro e w' ⟨rfl,rfl⟩
 go_wp2_with fail
 refine (show Calls _ _ _ _ _ from HN.out _).mono ?_
 rintro e w1 ⟨rfl,hb1⟩
 have hz:w.heap.size<w'.heap.size:=lt_of_some HXt.out
 have ht:w1.heap[w.heap.size]?=some (.cells #[.int .i64 0,.string ⟨#[]⟩] 109 (0,0)):=(hb1.block _ hz).trans HXt.out
 have HB1:Hid (Below w.heap.size w w1):=bthen HX.out hb1
 have q0:w1.cell? ⟨w.heap.size,0,none⟩=some (.int .i64 0):=cell_of_row w1 _ 0 _ _ (0,0) ht
 have q1:w1.cell? ⟨w.heap.size,1,none⟩=some (.string ⟨#[]⟩):=cell_of_row w1 _ 1 _ _ (0,0) ht
 have f0:w1.frozen? ⟨w.heap.size,0,none⟩=false:=frozen_of_row w1 _ 0 _ _ ht
 have f1:w1.frozen? ⟨w.heap.size,1,none⟩=false:=frozen_of_row w1 _ 1 _ _ ht
 clear hb1 ht
 go_wp2_with fail
 have HBE:Hid (Below w.heap.size w ((w1.setCell ⟨w.heap.size,0,none⟩ (.int .i64 (-1000-(n:Int)))).setCell ⟨w.heap.size,1,none⟩ (.string (⟨#[109,97,114,107]⟩++tn)))):=(HB1.out.setCell (Nat.le_refl _) _).setCell (Nat.le_refl _) _
 rw [←HBd.out]
 refine bodyPost_ret (v:=.agg #[.int .i64 (-1000-(n:Int)),.string (⟨#[109,97,114,107]⟩++tn)]) ?_ rfl ⟨rfl,HBE.out⟩
 simp [results,Tryz.results135,go_sem]
 go_simp
def Shlf (w:World) (ad:Option Addr) (len c:Nat) (mk:Nat→List Value):Prop:=
 ∀ i,i<len→∃ r a n cp,ad=some ⟨r,0,none⟩∧w.cell? ⟨r,i,none⟩=some (.slice a n cp)∧n≤100000000∧∀ k,k<n→∃ g,a=some ⟨g,0,none⟩∧∀ j v,(mk (i / 4 * 4))[j]?=some v→w.cell? ⟨g,k * c+j,none⟩=some v
theorem Shlf.low {w y:World} {ad:Option Addr} {len c:Nat} {mk:Nat→List Value} (h:Shlf w ad len c mk) (hb:Below w.heap.size w y):Shlf y ad len c mk:=fun i hi=>by
 obtain ⟨r,a,n,cp,e,hc,hn,hk⟩:=h i hi
 refine ⟨r,a,n,cp,e,(hb.cell (p:=⟨r,i,none⟩) (lt_of_cell hc)).trans hc,hn,fun k hkn=>?_⟩
 obtain ⟨g,ea,hj⟩:=hk k hkn
 exact ⟨g,ea,fun j v hv=>(hb.cell (p:=⟨g,k * c+j,none⟩) (lt_of_cell (hj j v hv))).trans (hj j v hv)⟩
theorem ad4 (b:Nat) (ad:Option Addr) (len cap:Nat) (w:World) (h:w.cell? ⟨b,1,none⟩=some (.slice ad len cap)) (hl:len≤1000000) (hk:Shlf w ad len 3 mword) :
  Calls Tryz.prog 74 #[.pointer (some ⟨b,0,none⟩)] w fun e w'=>e=.returned (.bool true)∧Below w.heap.size w w':=by
 have HK:Hid (∀ y,Below w.heap.size w y→y.cell? ⟨b,1,none⟩=some (.slice ad len cap)∧Shlf y ad len 3 mword):=fun y hy=>⟨(hy.cell (p:=⟨b,1,none⟩) (lt_of_cell h)).trans h,hk.low hy⟩
 clear hk h
 go_enter Tryz.func74,Tryz.ntmps74
 go_wp2_with fail
 go_loopw [3] (fun c wr=>∃ k:Nat,k≤len∧c=.int .i64 k∧Below w.heap.size w wr) (fun c _=>len-(intOf c).toNat)
 case atStart=>exact ⟨0,Nat.zero_le _,rfl,Below.refl _ _⟩
 case round =>
  obtain ⟨k,hkn,rfl,hb⟩:=hrel
  have HB:Hid (Below w.heap.size w wr):=hb
  have c1:=(HK.out wr hb).1
  clear hb
  by_cases hlt:k<len
  ·have hklen:(k:Int)<(len:Int):=by omega
   have HM:Hid (∀ x,Calls Tryz.prog 134 #[.int .i64 ((k:Int) / 4 * 4)] x fun e w'=>e=.returned (.agg #[.int .i64 (-1000-((k / 4 * 4:Nat):Int)),.int .i64 (-1000-((k / 4 * 4:Nat):Int)),.string (mbody (k / 4 * 4))])∧Below x.heap.size x w'):=fun x=>by
    have:=a7e (k / 4 * 4) (by omega) x
    rw [show (((k / 4 * 4:Nat):Int))=(k:Int) / 4 * 4 by omega] at this
    rw [show (((k / 4 * 4:Nat):Int))=(k:Int) / 4 * 4 by omega]
    exact this
   have HMk:Hid (mword (k / 4 * 4)=[.int .i64 (-1000-((k / 4 * 4:Nat):Int)),.int .i64 (-1000-((k / 4 * 4:Nat):Int)),.string (mbody (k / 4 * 4))]):=rfl
   obtain ⟨mm,hmm⟩:∃ mm:Int,mm = -1000-((k / 4 * 4:Nat):Int):=⟨_,rfl⟩
   rw [←hmm] at HM HMk
   generalize mbody (k / 4 * 4)=mb at *
   clear hmm
   go_wp2_with fail
   refine (show Calls _ _ _ _ _ from HM.out wr).mono ?_
   rintro e w1 ⟨rfl,hb1⟩
   have HX:Hid (Below wr.heap.size wr (w1.alloc (.cells #[.int .i64 mm,.int .i64 mm,.string mb] 89))):=bthen hb1 (a00 _ _)
   have HXt:Hid ((w1.alloc (.cells #[.int .i64 mm,.int .i64 mm,.string mb] 89)).heap[w1.heap.size]?=some (.cells #[.int .i64 mm,.int .i64 mm,.string mb] 89 (0,0))):=heap_alloc_new _ _
   clear hb1 c1
   go_wp2_with fail
   generalize w1.alloc (.cells #[.int .i64 mm,.int .i64 mm,.string mb] 89)=X at *
   have HBX:Hid (Below w.heap.size w X):=bthen HB.out HX.out
   have HCx:Hid (∀ y,Below X.heap.size X y→y.cell? ⟨w1.heap.size,0,none⟩=some (.int .i64 mm)∧y.cell? ⟨w1.heap.size,1,none⟩=some (.int .i64 mm)∧y.cell? ⟨w1.heap.size,2,none⟩=some (.string mb)):=fun y hy=>by
    have ht:=(hy.block _ (lt_of_some HXt.out)).trans HXt.out
    exact ⟨cell_of_row y _ 0 _ _ (0,0) ht,cell_of_row y _ 1 _ _ (0,0) ht,cell_of_row y _ 2 _ _ (0,0) ht⟩
   obtain ⟨r,a,n,cp,hr,hc0,hnb,hk0⟩:=(HK.out w (Below.refl _ _)).2 k hlt
   subst hr
   have HC0:Hid _:=hc0
   have HK0:Hid (∀ k_1,k_1<n→∃ g,a=some ⟨g,0,none⟩∧∀ j v,(mword (k / 4 * 4))[j]?=some v→w.cell? ⟨g,k_1 * 3+j,none⟩=some v):=hk0
   clear hc0 hk0
   have HKk:Hid (∀ y,Below w.heap.size w y→y.cell? ⟨r,k,none⟩=some (.slice a n cp)∧∀ j,j<n→∃ g,a=some ⟨g,0,none⟩∧y.cell? ⟨g,j * 3,none⟩=some (.int .i64 mm)∧y.cell? ⟨g,j * 3+1,none⟩=some (.int .i64 mm)∧y.cell? ⟨g,j * 3+2,none⟩=some (.string mb)):=fun y hy=>by
    refine ⟨(hy.cell (p:=⟨r,k,none⟩) (lt_of_cell HC0.out)).trans HC0.out,fun j hj=>?_⟩
    obtain ⟨g,ea,hv⟩:=HK0.out j hj
    rw [HMk.out] at hv
    have l:∀ i v,w.cell? ⟨g,i,none⟩=some v→y.cell? ⟨g,i,none⟩=some v:=fun i v hc=>(hy.cell (p:=⟨g,i,none⟩) (lt_of_cell hc)).trans hc
    exact ⟨g,ea,l _ _ (hv 0 _ rfl),l _ _ (hv 1 _ rfl),l _ _ (hv 2 _ rfl)⟩
   go_loopw [5] (fun c wq=>∃ j:Nat,j≤n∧c=.int .i64 j∧Below X.heap.size X wq) (fun c _=>n-(intOf c).toNat)
   case atStart=>exact ⟨0,Nat.zero_le _,rfl,Below.refl _ _⟩
   case round =>
    obtain ⟨j,hjn,rfl,hb⟩:=hrel
    have HBq:Hid (Below X.heap.size X wr):=hb
    have HBw:Hid (Below w.heap.size w wr):=bthen HBX.out hb
    obtain ⟨q0,q1,q2⟩:=HCx.out wr hb
    have c1:=(HK.out wr HBw.out).1
    obtain ⟨ck,hcj⟩:=HKk.out wr HBw.out
    have HCj:Hid _:=hcj
    clear hb hcj
    by_cases hj:j<n
    ·have hji:(j:Int)<(n:Int):=by omega
     obtain ⟨g,hga,d0,d1,d2⟩:=HCj.out j hj
     subst hga
     go_wp2_with fail
     go_quiet (fail)
     go_wp2_with fail
     go_roundw
     case rel=>exact ⟨j+1,by omega,by go_num,by first | exact HBq.out | exact HBq.out.drew | exact below_drewN HBq.out _⟩
     case measure=>simp [intOf];omega
    ·go_wp2_with fail
     go_roundw
     case rel=>exact ⟨k+1,by omega,by go_num,HBw.out⟩
     case measure=>simp [intOf];omega
  ·go_wp2_with fail
   go_ret
   exact ⟨rfl,HB.out⟩
theorem a8o (b:Nat) (ad:Option Addr) (len cap:Nat) (w:World) (h:w.cell? ⟨b,2,none⟩=some (.slice ad len cap)) (hl:len≤1000000) (hk:Shlf w ad len 2 mpack) :
  Calls Tryz.prog 75 #[.pointer (some ⟨b,0,none⟩)] w fun e w'=>e=.returned (.bool true)∧Below w.heap.size w w':=by
 have HK:Hid (∀ y,Below w.heap.size w y→y.cell? ⟨b,2,none⟩=some (.slice ad len cap)∧Shlf y ad len 2 mpack):=fun y hy=>⟨(hy.cell (p:=⟨b,2,none⟩) (lt_of_cell h)).trans h,hk.low hy⟩
 clear hk h
 go_enter Tryz.func75,Tryz.ntmps75
 go_wp2_with fail
 go_loopw [3] (fun c wr=>∃ k:Nat,k≤len∧c=.int .i64 k∧Below w.heap.size w wr) (fun c _=>len-(intOf c).toNat)
 case atStart=>exact ⟨0,Nat.zero_le _,rfl,Below.refl _ _⟩
 case round =>
  obtain ⟨k,hkn,rfl,hb⟩:=hrel
  have HB:Hid (Below w.heap.size w wr):=hb
  have c1:=(HK.out wr hb).1
  clear hb
  by_cases hlt:k<len
  ·have hklen:(k:Int)<(len:Int):=by omega
   have HM:Hid (∀ x,Calls Tryz.prog 135 #[.int .i64 ((k:Int) / 4 * 4)] x fun e w'=>e=.returned (.agg #[.int .i64 (-1000-((k / 4 * 4:Nat):Int)),.string (mbody (k / 4 * 4))])∧Below x.heap.size x w'):=fun x=>by
    have:=a5f (k / 4 * 4) (by omega) x
    rw [show (((k / 4 * 4:Nat):Int))=(k:Int) / 4 * 4 by omega] at this
    rw [show (((k / 4 * 4:Nat):Int))=(k:Int) / 4 * 4 by omega]
    exact this
   have HMk:Hid (mpack (k / 4 * 4)=[.int .i64 (-1000-((k / 4 * 4:Nat):Int)),.string (mbody (k / 4 * 4))]):=rfl
   obtain ⟨mm,hmm⟩:∃ mm:Int,mm = -1000-((k / 4 * 4:Nat):Int):=⟨_,rfl⟩
   rw [←hmm] at HM HMk
   generalize mbody (k / 4 * 4)=mb at *
   clear hmm
   go_wp2_with fail
   refine (show Calls _ _ _ _ _ from HM.out wr).mono ?_
   rintro e w1 ⟨rfl,hb1⟩
   have HX:Hid (Below wr.heap.size wr (w1.alloc (.cells #[.int .i64 mm,.string mb] 109))):=bthen hb1 (a00 _ _)
   have HXt:Hid ((w1.alloc (.cells #[.int .i64 mm,.string mb] 109)).heap[w1.heap.size]?=some (.cells #[.int .i64 mm,.string mb] 109 (0,0))):=heap_alloc_new _ _
   clear hb1 c1
   go_wp2_with fail
   generalize w1.alloc (.cells #[.int .i64 mm,.string mb] 109)=X at *
   have HBX:Hid (Below w.heap.size w X):=bthen HB.out HX.out
   have HCx:Hid (∀ y,Below X.heap.size X y→y.cell? ⟨w1.heap.size,0,none⟩=some (.int .i64 mm)∧y.cell? ⟨w1.heap.size,1,none⟩=some (.string mb)):=fun y hy=>by
    have ht:=(hy.block _ (lt_of_some HXt.out)).trans HXt.out
    exact ⟨cell_of_row y _ 0 _ _ (0,0) ht,cell_of_row y _ 1 _ _ (0,0) ht⟩
   obtain ⟨r,a,n,cp,hr,hc0,hnb,hk0⟩:=(HK.out w (Below.refl _ _)).2 k hlt
   subst hr
   have HC0:Hid _:=hc0
   have HK0:Hid (∀ k_1,k_1<n→∃ g,a=some ⟨g,0,none⟩∧∀ j v,(mpack (k / 4 * 4))[j]?=some v→w.cell? ⟨g,k_1 * 2+j,none⟩=some v):=hk0
   clear hc0 hk0
   have HKk:Hid (∀ y,Below w.heap.size w y→y.cell? ⟨r,k,none⟩=some (.slice a n cp)∧∀ j,j<n→∃ g,a=some ⟨g,0,none⟩∧y.cell? ⟨g,j * 2,none⟩=some (.int .i64 mm)∧y.cell? ⟨g,j * 2+1,none⟩=some (.string mb)):=fun y hy=>by
    refine ⟨(hy.cell (p:=⟨r,k,none⟩) (lt_of_cell HC0.out)).trans HC0.out,fun j hj=>?_⟩
    obtain ⟨g,ea,hv⟩:=HK0.out j hj
    rw [HMk.out] at hv
    have l:∀ i v,w.cell? ⟨g,i,none⟩=some v→y.cell? ⟨g,i,none⟩=some v:=fun i v hc=>(hy.cell (p:=⟨g,i,none⟩) (lt_of_cell hc)).trans hc
    exact ⟨g,ea,l _ _ (hv 0 _ rfl),l _ _ (hv 1 _ rfl)⟩
   go_loopw [5] (fun c wq=>∃ j:Nat,j≤n∧c=.int .i64 j∧Below X.heap.size X wq) (fun c _=>n-(intOf c).toNat)
   case atStart=>exact ⟨0,Nat.zero_le _,rfl,Below.refl _ _⟩
   case round =>
    obtain ⟨j,hjn,rfl,hb⟩:=hrel
    have HBq:Hid (Below X.heap.size X wr):=hb
    have HBw:Hid (Below w.heap.size w wr):=bthen HBX.out hb
    obtain ⟨q0,q1⟩:=HCx.out wr hb
    have c1:=(HK.out wr HBw.out).1
    obtain ⟨ck,hcj⟩:=HKk.out wr HBw.out
    have HCj:Hid _:=hcj
    clear hb hcj
    by_cases hj:j<n
    ·have hji:(j:Int)<(n:Int):=by omega
     obtain ⟨g,hga,d0,d1⟩:=HCj.out j hj
     subst hga
     go_wp2_with fail
     go_quiet (fail)
     go_wp2_with fail
     go_roundw
     case rel=>exact ⟨j+1,by omega,by go_num,by first | exact HBq.out | exact HBq.out.drew | exact below_drewN HBq.out _⟩
     case measure=>simp [intOf];omega
    ·go_wp2_with fail
     go_roundw
     case rel=>exact ⟨k+1,by omega,by go_num,HBw.out⟩
     case measure=>simp [intOf];omega
  ·go_wp2_with fail
   go_ret
   exact ⟨rfl,HB.out⟩
def mint (n:Nat):List Value:=[.int .i64 (-1000-(n:Int))]
theorem al1 (b:Nat) (ad:Option Addr) (len cap:Nat) (w:World) (h:w.cell? ⟨b,0,none⟩=some (.slice ad len cap)) (hl:len≤1000000) (hk:Shlf w ad len 1 mint) :
  Calls Tryz.prog 73 #[.pointer (some ⟨b,0,none⟩)] w fun e w'=>e=.returned (.bool true)∧Below w.heap.size w w':=by
 have HK:Hid (∀ y,Below w.heap.size w y→y.cell? ⟨b,0,none⟩=some (.slice ad len cap)∧Shlf y ad len 1 mint):=fun y hy=>⟨(hy.cell (p:=⟨b,0,none⟩) (lt_of_cell h)).trans h,hk.low hy⟩
 clear hk h
 go_enter Tryz.func73,Tryz.ntmps73
 go_wp2_with fail
 go_loopw [3] (fun c wr=>∃ k:Nat,k≤len∧c=.int .i64 k∧Below w.heap.size w wr) (fun c _=>len-(intOf c).toNat)
 case atStart=>exact ⟨0,Nat.zero_le _,rfl,Below.refl _ _⟩
 case round =>
  obtain ⟨k,hkn,rfl,hb⟩:=hrel
  have HB:Hid (Below w.heap.size w wr):=hb
  have c1:=(HK.out wr hb).1
  clear hb
  by_cases hlt:k<len
  ·have hklen:(k:Int)<(len:Int):=by omega
   have HM:Hid (∀ x,Calls Tryz.prog 133 #[.int .i64 ((k:Int) / 4 * 4)] x fun e w'=>e=.returned (.int .i64 (-1000-((k / 4 * 4:Nat):Int)))∧w'=x):=fun x=>by
    have:=a1g ((k:Int) / 4 * 4) x (by omega) (by omega)
    rw [show (-1000-(k:Int) / 4 * 4) = -1000-((k / 4 * 4:Nat):Int) by omega] at this
    exact this
   have HMk:Hid (mint (k / 4 * 4)=[.int .i64 (-1000-((k / 4 * 4:Nat):Int))]):=rfl
   obtain ⟨mm,hmm⟩:∃ mm:Int,mm = -1000-((k / 4 * 4:Nat):Int):=⟨_,rfl⟩
   rw [←hmm] at HM HMk
   clear hmm
   go_wp2_with fail
   refine (show Calls _ _ _ _ _ from HM.out wr).mono ?_
   rintro e w1 ⟨rfl,rfl⟩
   clear c1
   obtain ⟨r,a,n,cp,hr,hc0,hnb,hk0⟩:=(HK.out w (Below.refl _ _)).2 k hlt
   subst hr
   have HC0:Hid _:=hc0
   have HK0:Hid (∀ k_1,k_1<n→∃ g,a=some ⟨g,0,none⟩∧∀ j v,(mint (k / 4 * 4))[j]?=some v→w.cell? ⟨g,k_1 * 1+j,none⟩=some v):=hk0
   clear hc0 hk0
   have HKk:Hid (∀ y,Below w.heap.size w y→y.cell? ⟨r,k,none⟩=some (.slice a n cp)∧∀ j,j<n→∃ g,a=some ⟨g,0,none⟩∧y.cell? ⟨g,j,none⟩=some (.int .i64 mm)):=fun y hy=>by
    refine ⟨(hy.cell (p:=⟨r,k,none⟩) (lt_of_cell HC0.out)).trans HC0.out,fun j hj=>?_⟩
    obtain ⟨g,ea,hv⟩:=HK0.out j hj
    rw [HMk.out] at hv
    have l:∀ i v,w.cell? ⟨g,i,none⟩=some v→y.cell? ⟨g,i,none⟩=some v:=fun i v hc=>(hy.cell (p:=⟨g,i,none⟩) (lt_of_cell hc)).trans hc
    have h0:=hv 0 _ rfl
    rw [Nat.mul_one,Nat.add_zero] at h0
    exact ⟨g,ea,l _ _ h0⟩
   go_wp2_with fail
   go_loopw [5] (fun c wq=>∃ j:Nat,j≤n∧c=.int .i64 j∧Below w.heap.size w wq) (fun c _=>n-(intOf c).toNat)
   case atStart=>exact ⟨0,Nat.zero_le _,rfl,HB.out⟩
   case round =>
    obtain ⟨j,hjn,rfl,hb⟩:=hrel
    have HBw:Hid (Below w.heap.size w wr):=hb
    have c1:=(HK.out wr HBw.out).1
    obtain ⟨ck,hcj⟩:=HKk.out wr HBw.out
    have HCj:Hid _:=hcj
    clear hb hcj
    by_cases hj:j<n
    ·have hji:(j:Int)<(n:Int):=by omega
     obtain ⟨g,hga,d0⟩:=HCj.out j hj
     subst hga
     have hmm:((mm:Int) != mm)=false:=by simp
     go_wp2_with fail
     go_roundw
     case rel=>exact ⟨j+1,by omega,by go_num,HBw.out⟩
     case measure=>simp [intOf];omega
    ·go_wp2_with fail
     go_roundw
     case rel=>exact ⟨k+1,by omega,by go_num,HBw.out⟩
     case measure=>simp [intOf];omega
  ·go_wp2_with fail
   go_ret
   exact ⟨rfl,HB.out⟩
theorem b1y (b:Nat) (ad0 ad1 ad2:Option Addr) (len0 len1 len2 cap0 cap1 cap2:Nat) (w:World) (h0:w.cell? ⟨b,0,none⟩=some (.slice ad0 len0 cap0)) (h1:w.cell? ⟨b,1,none⟩=some (.slice ad1 len1 cap1)) (h2:w.cell? ⟨b,2,none⟩=some (.slice ad2 len2 cap2)) (hl0:len0≤1000000) (hl1:len1≤1000000) (hl2:len2≤1000000) (k0:Shlf w ad0 len0 1 mint) (k1:Shlf w ad1 len1 3 mword) (k2:Shlf w ad2 len2 2 mpack) :
  Calls Tryz.prog 38 #[.pointer (some ⟨b,0,none⟩)] w fun e w'=>e=.returned (.bool true)∧Below w.heap.size w w':=by
 have H0:Hid _:=al1 b ad0 len0 cap0 w h0 hl0 k0
 have H1:Hid (∀ y,Below w.heap.size w y→Calls Tryz.prog 74 #[.pointer (some ⟨b,0,none⟩)] y fun e w'=>e=.returned (.bool true)∧Below y.heap.size y w'):=fun y hy=>ad4 b ad1 len1 cap1 y ((hy.cell (p:=⟨b,1,none⟩) (lt_of_cell h1)).trans h1) hl1 (k1.low hy)
 have H2:Hid (∀ y,Below w.heap.size w y→Calls Tryz.prog 75 #[.pointer (some ⟨b,0,none⟩)] y fun e w'=>e=.returned (.bool true)∧Below y.heap.size y w'):=fun y hy=>a8o b ad2 len2 cap2 y ((hy.cell (p:=⟨b,2,none⟩) (lt_of_cell h2)).trans h2) hl2 (k2.low hy)
 clear h0 h1 h2 k0 k1 k2
 go_enter Tryz.func38,Tryz.ntmps38
 go_wp2_with fail
 refine (show Calls _ _ _ _ _ from H0.out).mono ?_
 rintro e w1 ⟨rfl,hb1⟩
 have HB1:Hid (Below w.heap.size w w1):=hb1
 clear hb1
 go_wp2_with fail
 refine (show Calls _ _ _ _ _ from H1.out w1 HB1.out).mono ?_
 rintro e w2 ⟨rfl,hb2⟩
 have HB2:Hid (Below w.heap.size w w2):=bthen HB1.out hb2
 clear hb2
 go_wp2_with fail
 refine (show Calls _ _ _ _ _ from H2.out w2 HB2.out).mono ?_
 rintro e w3 ⟨rfl,hb3⟩
 have HB3:Hid (Below w.heap.size w w3):=bthen HB2.out hb3
 clear hb3
 go_wp2_with fail
 go_ret
 exact ⟨rfl,HB3.out⟩
def Mrk (w:World) (ao:Option Addr) (n cap sz:Nat) (e:TypeId) (mc:List Value):Prop:=
 (ao=none∧n=0∧cap=0)∨∃ g,ao=some ⟨g,0,none⟩∧(∃ cur,w.heap[g]?=some (.cells cur e (0,0))∧cap * sz≤cur.size)∧n≤cap∧∀ k,k<n→∀ j v,mc[j]?=some v→w.cell? ⟨g,k * sz+j,none⟩=some v
def marks (m:Nat) (mc:List Value):List Value:=(List.replicate m mc).flatten
theorem a7q (m:Nat) (mc:List Value):(marks m mc).length=m * mc.length:=by
 unfold marks
 induction m with
 | zero=>simp
 | succ m ih=>rw [List.replicate_succ,List.flatten_cons,List.length_append,ih,Nat.succ_mul,Nat.add_comm]
theorem a90 (m:Nat) (mc:List Value) (k j:Nat) (hk:k<m) (hj:j<mc.length):(marks m mc)[k * mc.length+j]?=mc[j]?:=by
 induction m generalizing k with
 | zero=>omega
 | succ m ih =>
  unfold marks
  rw [List.replicate_succ,List.flatten_cons]
  cases k with
  | zero=>rw [Nat.zero_mul,Nat.zero_add,List.getElem?_append_left hj]
  | succ k =>
   rw [List.getElem?_append_right (by rw [Nat.succ_mul];omega),show (k+1) * mc.length+j-mc.length=k * mc.length+j by rw [Nat.succ_mul];omega]
   exact ih k (by omega)
theorem b3y {m:Nat} {mc:List Value} {u:Value} (h:u∈marks m mc):u∈mc:=by
 unfold marks at h
 obtain ⟨l,hl,hu⟩:=List.mem_flatten.1 h
 rw [(List.mem_replicate.1 hl).2] at hu
 exact hu
theorem ar5 {sz n:Nat} {i:Nat} (hi:i<n * sz):∃ k j,k<n∧j<sz∧i=k * sz+j:=by
 have h0:0<sz:=by
  rcases Nat.eq_zero_or_pos sz with h | h
  ·rw [h] at hi;omega
  ·exact h
 refine ⟨i / sz,i % sz,Nat.div_lt_of_lt_mul (by rw [Nat.mul_comm];exact hi),Nat.mod_lt _ h0,?_⟩
 rw [Nat.mul_comm]
 exact (Nat.div_add_mod i sz).symm
theorem b21 (n m:Nat) (mc:List Value):marks (n+m) mc=marks n mc++marks m mc:=by
 unfold marks
 rw [←List.replicate_append_replicate,List.flatten_append]
theorem Mrk.b6l {w:World} {base n sz:Nat} {e:TypeId} {v:Value} {mc:List Value} (hs:mc.length=sz) (hn:0<n) (h:w.ownsRow base e sz v n (marks n mc)):∃ g cap,v=.slice (some ⟨g,0,none⟩) n cap∧base≤g∧Mrk w (some ⟨g,0,none⟩) n cap sz e mc:=by
 rcases h.2 with ⟨_,h0⟩ | ⟨g,cap,cur,rfl,hg,hh,hnc,hcm,hcs,htk⟩
 ·omega
 ·refine ⟨g,cap,rfl,hg,Or.inr ⟨g,rfl,⟨cur,hh,by rw [hcs];exact Nat.le_refl _⟩,hnc,fun k hk j u hj=>?_⟩⟩
  have hjl:j<mc.length:=(List.getElem?_eq_some_iff.1 hj).1
  have hlt:k * sz+j<n * sz:=by
   have:(k+1) * sz≤n * sz:=Nat.mul_le_mul_right _ hk
   rw [Nat.succ_mul] at this
   omega
  rw [World.ownsRow.cellAt h (k * sz+j) hlt]
  have:=a90 n mc k j hk hjl
  rw [hs] at this
  rw [this,hj]
theorem Mrk.low {w y:World} {ao:Option Addr} {n cap sz:Nat} {e:TypeId} {mc:List Value} {E:Nat→Prop} (h:Mrk w ao n cap sz e mc) (ha:Alike w y E) (hE:∀ k,onB ao k→¬ E k):Mrk y ao n cap sz e mc:=by
 rcases h with h | ⟨g,rfl,⟨cur,hh,hcz⟩,hnc,hcell⟩
 ·exact Or.inl h
 ·have hg:¬ E g:=hE g ⟨0,rfl⟩
  exact Or.inr ⟨g,rfl,⟨cur,(ha.block g (lt_of_some hh) hg).trans hh,hcz⟩,hnc,fun k hk j v hj=>ha.cell (hcell k hk j v hj) hg⟩
theorem a1i (g:Nat):∀ (vs:List Value) (o:Nat) (w:World),Alike w (w.setCells g o vs) (fun k=>k=g)
 | [],_,w=>Alike.refl w _
 | v :: vs,o,w=>(Alike.setCell w ⟨g,o,none⟩ v).trans (a1i g vs (o+1) _) (fun _ _ h=>h)
theorem a4m (g:Nat) (e:TypeId):∀ (vs:List Value) (o:Nat) (w:World) (cur:Array Value),w.heap[g]?=some (.cells cur e (0,0))→∃ cur',(w.setCells g o vs).heap[g]?=some (.cells cur' e (0,0))∧cur'.size=cur.size
 | [],_,w,cur,h=>⟨cur,h,rfl⟩
 | v :: vs,o,w,cur,h=>by
  obtain ⟨cur',h1,h2⟩:=a4m g e vs (o+1) _ _ (heap_setCell_same w g o cur e v h)
  exact ⟨cur',h1,by rw [h2];simp⟩
theorem a0f {P:Program} (w:World) {ops:Array Oper} {rest:List Oper} {o:Oper} {a:Act} {Q:Exit→Act→World→Prop}
  (hg:o.guard=none) (s x:Operand) (t:TypeId) (hop:o.op=Op.call { callee:=Callee.builtin Builtin.append,args:=#[s,x],argTypes:=#[t,t] })
  (e:TypeId) (i:TypeInfo) (z:Value) (sz bytes:Nat) (h1:P.underlying t=some (.slice e)) (h2:P.info? e=some i) (h3:i.zero=some z) (h4:i.size=sz) (h5:i.bytes=bytes) (h6:z.cells.size=sz) (h7:0<sz)
  (ao:Option Addr) (n cap:Nat) (mc:List Value) (hmc:mc.length=sz) (hm1:∀ u∈mc,u.oneCell'=true) (hs:a.eval s=.slice ao n cap) (hM:Mrk w ao n cap sz e mc)
  (ad:Addr) (m c:Nat) (hx:a.eval x=.slice (some ad) m c) (hc:∀ j u,(marks m mc)[j]?=some u→w.cell? (ad.add j)=some u) (hm:0<m)
  (b1:n+m≤maxLen) (b2:(n+m) * bytes≤140737488355328)
  (hK:∀ g' cap' w',Mrk w' (some ⟨g',0,none⟩) (n+m) cap' sz e mc→(∀ a' n' cap',Mrk w a' n' cap' sz e mc→Mrk w' a' n' cap' sz e mc)→Alike w w' (onB ao)→(onB ao g'∨w.heap.size≤g')→wpList P ops Q rest (a.put o.dst (.slice (some ⟨g',0,none⟩) (n+m) cap')) w') :
  wpList P ops Q (o :: rest) a w:=by
 have hln:(marks m mc).length=m * sz:=by rw [a7q,hmc]
 have hlo:(marks n mc).length=n * sz:=by rw [a7q,hmc]
 have hone:∀ u∈marks m mc,u.oneCell'=true:=fun u hu=>hm1 u (b3y hu)
 have hgrow:∀ v' w',w'.ownsRow w.heap.size e sz v' (n+m) (marks n mc++marks m mc)→w.grownBy w' none→wpList P ops Q rest (a.put o.dst v') w':=fun v' w' ho hgr=>by
  rw [←b21] at ho
  obtain ⟨g',cap',rfl,hgb,hM'⟩:=Mrk.b6l hmc (by omega) ho
  have ha:Alike w w' (fun k=>none=some k):=Alike.a2h hgr
  exact hK g' cap' w' hM' (fun a' n' cap'' h=>h.low ha (fun _ _ h=>by cases h)) ((Alike.refl w _).trans ha (fun k _ h=>by cases h)) (Or.inr hgb)
 rcases hM with ⟨rfl,rfl,rfl⟩ | ⟨g,rfl,⟨cur,hh,hcz⟩,hnc,hcell⟩
 ·exact wpList_append_grows w hg s x t hop e i z sz bytes h1 h2 h3 h4 h5 h6 h7 none 0 0 (marks 0 mc) hs (fun _=>⟨rfl,rfl⟩) hlo (fun b hb=>by cases hb) ad m c (marks m mc) hx hln hc hone (by omega) b1 b2 hgrow
 ·have hold:∀ j u,(marks n mc)[j]?=some u→w.cell? ⟨g,0+j,none⟩=some u:=fun j u hj=>by
   have hjl:=(List.getElem?_eq_some_iff.1 hj).1
   rw [hlo] at hjl
   obtain ⟨k,j',hk,hj',rfl⟩:=ar5 hjl
   have h8:=a90 n mc k j' hk (by omega)
   rw [hmc] at h8
   rw [h8] at hj
   rw [Nat.zero_add]
   exact hcell k hk j' u hj
  have hsp:n+m≤cap→∀ j,j<(marks m mc).length→(w.cell? ⟨g,0+n * sz+j,none⟩).isSome=true∧w.frozen? ⟨g,0+n * sz+j,none⟩=false:=fun hr j hj=>by
   refine ⟨?_,frozen_of_row w g _ cur e hh⟩
   rw [cell_of_row w g _ cur e (0,0) hh]
   have h9:(n+m) * sz≤cap * sz:=Nat.mul_le_mul_right _ hr
   rw [Nat.add_mul] at h9
   rw [hln] at hj
   rw [Array.getElem?_eq_getElem (by omega)]
   rfl
  refine wpList_append_arg w hg s x t hop e i z sz bytes h1 h2 h3 h4 h5 h6 h7 g 0 n cap (marks n mc) hs hlo hold ad m c (marks m mc) hx hln hc hone hsp b1 b2 (fun hr=>?_) (fun _=>hgrow)
  rw [Nat.zero_add]
  have hsp2:∀ j,j<(marks m mc).length→(w.cell? ⟨g,n * sz+j,none⟩).isSome=true:=fun j hj=>by
   have:=(hsp hr j hj).1
   rw [Nat.zero_add] at this
   exact this
  have hin:∀ d,d<m→∀ j v,mc[j]?=some v→(w.setCells g (n * sz) (marks m mc)).cell? ⟨g,(n+d) * sz+j,none⟩=some v:=fun d hd j v hj=>by
   have hjl:=(List.getElem?_eq_some_iff.1 hj).1
   have h9:(d+1) * sz≤m * sz:=Nat.mul_le_mul_right _ hd
   rw [Nat.succ_mul] at h9
   have hlt:d * sz+j<(marks m mc).length:=by rw [hln];omega
   have h10:=a90 m mc d j hd hjl
   rw [hmc] at h10
   rw [show (n+d) * sz+j=n * sz+(d * sz+j) by rw [Nat.add_mul];omega]
   rw [World.cell?_setCells_in g (marks m mc) (n * sz) w hsp2 (d * sz+j) hlt,←List.getElem?_eq_getElem hlt,h10]
   exact hj
  obtain ⟨cur',hc',hs'⟩:=a4m g e (marks m mc) (n * sz) w cur hh
  have hall:∀ n' cap',Mrk w (some ⟨g,0,none⟩) n' cap' sz e mc→Mrk (w.setCells g (n * sz) (marks m mc)) (some ⟨g,0,none⟩) n' cap' sz e mc:=fun n' cap' hM'=>by
   rcases hM' with ⟨h,_⟩ | ⟨g',e',⟨cur2,hh2,hcz2⟩,hnc2,hcell2⟩
   ·cases h
   ·cases e'
    rw [hh] at hh2
    cases hh2
    refine Or.inr ⟨g,rfl,⟨cur',hc',by rw [hs'];exact hcz2⟩,hnc2,fun k hk j v hj=>?_⟩
    have hjl:=(List.getElem?_eq_some_iff.1 hj).1
    by_cases hkn:k<n
    ·have h9:(k+1) * sz≤n * sz:=Nat.mul_le_mul_right _ hkn
     rw [Nat.succ_mul] at h9
     rw [World.cell?_setCells_out g (marks m mc) (n * sz) w ⟨g,k * sz+j,none⟩ (fun _ _=>Or.inl (by show k * sz+j<n * sz;omega))]
     exact hcell2 k hk j v hj
    ·by_cases hkm:k<n+m
     ·obtain ⟨d,rfl⟩:∃ d,k=n+d:=⟨k-n,by omega⟩
      exact hin d (by omega) j v hj
     ·have h9:(n+m) * sz≤k * sz:=Nat.mul_le_mul_right _ (by omega)
      rw [Nat.add_mul] at h9
      rw [World.cell?_setCells_out g (marks m mc) (n * sz) w ⟨g,k * sz+j,none⟩ (fun _ _=>Or.inr (by show n * sz+(marks m mc).length≤k * sz+j;rw [hln];omega))]
      exact hcell2 k hk j v hj
  refine hK g cap _ (Or.inr ⟨g,rfl,⟨cur',hc',by rw [hs'];exact hcz⟩,hr,fun k hk j v hj=>?_⟩) (fun a' n' cap' h=>?_) ((Alike.refl w _).trans (a1i g _ _ w) (fun k _ h=>⟨0,by rw [h]⟩)) (Or.inl ⟨0,rfl⟩)
  ·by_cases hkn:k<n
   ·have h9:(k+1) * sz≤n * sz:=Nat.mul_le_mul_right _ hkn
    rw [Nat.succ_mul] at h9
    have hjl:=(List.getElem?_eq_some_iff.1 hj).1
    rw [World.cell?_setCells_out g (marks m mc) (n * sz) w ⟨g,k * sz+j,none⟩ (fun _ _=>Or.inl (by show k * sz+j<n * sz;omega))]
    exact hcell k hkn j v hj
   ·obtain ⟨d,rfl⟩:∃ d,k=n+d:=⟨k-n,by omega⟩
    exact hin d (by omega) j v hj
  ·by_cases ha:onB a' g
   ·obtain ⟨off,rfl⟩:=ha
    rcases h with ⟨h,_⟩ | ⟨g',e',h'⟩
    ·cases h
    ·cases e'
     exact hall n' cap' (Or.inr ⟨g,rfl,h'⟩)
   ·exact h.low (a1i g _ _ w) (fun k hk he=>ha (by rw [←he];exact hk))
theorem Mrk.store {w:World} {g n cap sz:Nat} {e:TypeId} {mc:List Value} (hmc:mc.length=sz) (h:Mrk w (some ⟨g,0,none⟩) n cap sz e mc) (hn:n<cap):Mrk (w.setCells g (n * sz) mc) (some ⟨g,0,none⟩) (n+1) cap sz e mc:=by
 rcases h with ⟨h,_⟩ | ⟨g',e',⟨cur,hh,hcz⟩,hnc,hcell⟩
 ·cases h
 ·cases e'
  obtain ⟨cur',hc',hs'⟩:=a4m g e mc (n * sz) w cur hh
  refine Or.inr ⟨g,rfl,⟨cur',hc',by rw [hs'];exact hcz⟩,hn,fun k hk j v hj=>?_⟩
  have hjl:=(List.getElem?_eq_some_iff.1 hj).1
  have h8:(n+1) * sz≤cap * sz:=Nat.mul_le_mul_right _ hn
  rw [Nat.succ_mul] at h8
  by_cases hkn:k<n
  ·have h9:(k+1) * sz≤n * sz:=Nat.mul_le_mul_right _ hkn
   rw [Nat.succ_mul] at h9
   rw [World.cell?_setCells_out g mc (n * sz) w ⟨g,k * sz+j,none⟩ (fun _ _=>Or.inl (by show k * sz+j<n * sz;omega))]
   exact hcell k hkn j v hj
  ·obtain rfl:k=n:=by omega
   rw [World.cell?_setCells_in g mc (k * sz) w (fun i hi=>by
    rw [cell_of_row w g _ cur e (0,0) hh,Array.getElem?_eq_getElem (by omega)]
    rfl) j hjl,←List.getElem?_eq_getElem hjl]
   exact hj
theorem Mrk.lt {w:World} {ao:Option Addr} {n cap sz:Nat} {e:TypeId} {mc:List Value} (h:Mrk w ao n cap sz e mc) {k:Nat} (hk:onB ao k):k<w.heap.size∧∃ cur,w.heap[k]?=some (.cells cur e (0,0)):=by
 obtain ⟨off,rfl⟩:=hk
 rcases h with ⟨h,_⟩ | ⟨g,e',⟨cur,hh,hcz⟩,_⟩
 ·cases h
 ·cases e'
  exact ⟨lt_of_some hh,cur,hh⟩
theorem Tryz.az0:(Tryz.prog.info? 62).map (fun i=>(i.zero,i.size,i.bytes))=some (some (.slice none 0 0),1,24):=by kernel_rfl
structure KeptW (w w':World) (b:Nat) (ad:Option Addr) (len:Nat) (xs:List Value) (ao:Option Addr) (n cp:Nat):Prop where
 how:∃ ad' cap' a1 c1 a2 c2 a3 c3,w'.cell? ⟨b,1,none⟩=some (.slice ad' (len+4) cap')∧w'.ownsRow 0 62 1 (.slice ad' (len+4) cap') (len+4) (xs++[.slice ao n cp,.slice a1 (n+1) c1,.slice a2 (n+2) c2,.slice a3 (n+3) c3])
  ∧ Mrk w' ao n cp 3 89 (mword len)∧Mrk w' a1 (n+1) c1 3 89 (mword len)∧Mrk w' a2 (n+2) c2 3 89 (mword len)∧Mrk w' a3 (n+3) c3 3 89 (mword len)
  ∧ (∀ k,onB a1 k∨onB a2 k∨onB a3 k→onB ao k∨w.heap.size≤k)∧(∀ k,onB ad' k→onB ad k∨w.heap.size≤k)
 rest:Alike w w' (fun k=>k=b∨onB ao k∨onB ad k)
 others:∀ j v,j≠1→w.cell? ⟨b,j,none⟩=some v→w'.cell? ⟨b,j,none⟩=some v
 ty:∃ cur,w'.heap[b]?=some (.cells cur 79 (0,0))
theorem ae0 (b:Nat) (ad:Option Addr) (len cap:Nat) (xs:List Value) (ao:Option Addr) (n cp:Nat) (hl:len≤1000000) (hn:n≤1000000) (hnc:n≤cp) (w:World) (hc:w.cell? ⟨b,1,none⟩=some (.slice ad len cap)) (hty:∃ cur,w.heap[b]?=some (.cells cur 79 (0,0))) (ho:w.ownsRow 0 62 1 (.slice ad len cap) len xs) (hM:Mrk w ao 0 cp 3 89 (mword len)) :
  Calls Tryz.prog 114 #[.pointer (some ⟨b,0,none⟩),.slice ao n cp] w fun e w'=>e=.returned (.tuple #[])∧KeptW w w' b ad len xs ao n cp:=by
 have HC:Hid (w.cell? ⟨b,1,none⟩=some (.slice ad len cap)):=hc
 have HTy:Hid _:=hty
 have HO:Hid _:=ho
 have HM0:Hid (Mrk w ao 0 cp 3 89 (mword len)):=hM
 have HMk:Hid (∀ x,Calls Tryz.prog 134 #[.int .i64 (len:Int)] x fun e w'=>e=.returned (.agg #[.int .i64 (-1000-(len:Int)),.int .i64 (-1000-(len:Int)),.string (mbody len)])∧Below x.heap.size x w'):=fun x=>a7e len hl x
 have HMc:Hid (mword len=[.int .i64 (-1000-(len:Int)),.int .i64 (-1000-(len:Int)),.string (mbody len)]):=rfl
 have HMl:Hid ((mword len).length=3):=rfl
 obtain ⟨mm,hmm⟩:∃ mm:Int,mm = -1000-(len:Int):=⟨_,rfl⟩
 rw [←hmm] at HMk HMc
 clear hmm hM ho hty
 generalize hmb:mbody len=mb at *
 generalize hmw:mword len=mc at *
 have HMw:Hid (mword len=mc):=hmw
 clear hmb hmw
 go_enter Tryz.func114,Tryz.ntmps114
 go_wp2_with fail
 refine (show Calls _ _ _ _ _ from HMk.out w).mono ?_
 rintro e w1 ⟨rfl,hb1⟩
 have HX:Hid (Below w.heap.size w (w1.alloc (.cells #[.int .i64 mm,.int .i64 mm,.string mb] 89))):=bthen hb1 (a00 _ _)
 have HXt:Hid ((w1.alloc (.cells #[.int .i64 mm,.int .i64 mm,.string mb] 89)).heap[w1.heap.size]?=some (.cells #[.int .i64 mm,.int .i64 mm,.string mb] 89 (0,0))):=heap_alloc_new _ _
 have HZ1:Hid (w.heap.size≤w1.heap.size):=hb1.size
 clear hb1 hc
 go_wp2_with fail
 generalize w1.alloc (.cells #[.int .i64 mm,.int .i64 mm,.string mb] 89)=X at *
 have HMX:Hid (Mrk X ao 0 cp 3 89 mc):=HM0.out.low (Alike.of_below HX.out (fun _=>False)) (fun _ _ h=>h)
 have HBx:Hid (∀ y,Alike X y (onB ao)→y.cell? ⟨w1.heap.size,0,none⟩=some (.int .i64 mm)∧y.cell? ⟨w1.heap.size,1,none⟩=some (.int .i64 mm)∧y.cell? ⟨w1.heap.size,2,none⟩=some (.string mb)):=fun y hy=>by
  have hne:¬ onB ao w1.heap.size:=fun h=>by
   have:=(HM0.out.lt h).1
   have:=HZ1.out
   omega
  have ht:=(hy.block _ (lt_of_some HXt.out) hne).trans HXt.out
  exact ⟨cell_of_row y _ 0 _ _ (0,0) ht,cell_of_row y _ 1 _ _ (0,0) ht,cell_of_row y _ 2 _ _ (0,0) ht⟩
 go_loopw [5] (fun c wr=>∃ k:Nat,k≤n∧c=.int .i64 k∧Mrk wr ao k cp 3 89 mc∧Alike X wr (onB ao)) (fun c _=>n-(intOf c).toNat)
 case atStart=>exact ⟨0,Nat.zero_le _,rfl,HMX.out,Alike.refl _ _⟩
 case round =>
  obtain ⟨k,hkn,rfl,hMk,hAk⟩:=hrel
  have HMr:Hid _:=hMk
  have HAr:Hid (Alike X wr (onB ao)):=hAk
  obtain ⟨q0,q1,q2⟩:=HBx.out wr hAk
  by_cases hlt:k<n
  ·have hki:(k:Int)<(n:Int):=by omega
   rcases hMk with ⟨_,_,h0⟩ | ⟨g,rfl,⟨cur,hh,hcz⟩,hkc,_⟩
   ·omega
   ·obtain ⟨u0,d0⟩:∃ u,wr.cell? ⟨g,k * 3,none⟩=some u:=⟨cur[k * 3]'(by omega),by rw [cell_of_row wr g _ cur _ (0,0) hh];exact Array.getElem?_eq_getElem _⟩
    obtain ⟨u1,d1⟩:∃ u,wr.cell? ⟨g,k * 3+1,none⟩=some u:=⟨cur[k * 3+1]'(by omega),by rw [cell_of_row wr g _ cur _ (0,0) hh];exact Array.getElem?_eq_getElem _⟩
    obtain ⟨u2,d2⟩:∃ u,wr.cell? ⟨g,k * 3+2,none⟩=some u:=⟨cur[k * 3+2]'(by omega),by rw [cell_of_row wr g _ cur _ (0,0) hh];exact Array.getElem?_eq_getElem _⟩
    have f0:wr.frozen? ⟨g,k * 3,none⟩=false:=frozen_of_row wr g _ cur _ hh
    have f1:wr.frozen? ⟨g,k * 3+1,none⟩=false:=frozen_of_row wr g _ cur _ hh
    have f2:wr.frozen? ⟨g,k * 3+2,none⟩=false:=frozen_of_row wr g _ cur _ hh
    have HMn:Hid (Mrk (wr.setCells g (k * 3) mc) (some ⟨g,0,none⟩) (k+1) cp 3 89 mc):=Mrk.store HMl.out HMr.out (by omega)
    have HAn:Hid (Alike X (wr.setCells g (k * 3) mc) (onB (some ⟨g,0,none⟩))):=HAr.out.trans (a1i g mc (k * 3) wr) (fun j _ h=>⟨0,by rw [h]⟩)
    have HEq:Hid (wr.setCells g (k * 3) mc=((wr.setCell ⟨g,k * 3,none⟩ (.int .i64 mm)).setCell ⟨g,k * 3+1,none⟩ (.int .i64 mm)).setCell ⟨g,k * 3+2,none⟩ (.string mb)):=by show _=_;rw [HMc.out];rfl
    rw [HEq.out] at HMn HAn
    clear hh hcz hkc hAk
    go_wp2_with fail
    go_roundw
    case rel=>exact ⟨k+1,by omega,by go_num,HMn.out,HAn.out⟩
    case measure=>simp [intOf];omega
  ·have hkn':k=n:=by omega
   subst hkn'
   clear hMk hAk
   obtain ⟨i0,hi,hz0,hz1,hz2⟩:=info_parts Tryz.a6l
   have HOne:Hid (∀ u∈mc,u.oneCell'=true):=by
    rw [HMc.out]
    intro u hu
    simp at hu
    rcases hu with rfl | rfl<;>rfl
   have HNw1:Hid (∀ (y:World) (B:Nat),y.heap[B]?=some (.cells #[.int .i64 mm,.int .i64 mm,.string mb] 89 (0,0))→∀ j u,(marks 1 mc)[j]?=some u→y.cell? ((⟨B,0,none⟩:Addr).add j)=some u):=fun y B hB=>by rw [HMc.out];exact World.news_of_block hB
   have HNw2:Hid (∀ (y:World) (B:Nat),y.heap[B]?=some (.cells #[.int .i64 mm,.int .i64 mm,.string mb,.int .i64 mm,.int .i64 mm,.string mb] 89 (0,0))→∀ j u,(marks 2 mc)[j]?=some u→y.cell? ((⟨B,0,none⟩:Addr).add j)=some u):=fun y B hB=>by rw [HMc.out];exact World.news_of_block hB
   have HNw3:Hid (∀ (y:World) (B:Nat),y.heap[B]?=some (.cells #[.int .i64 mm,.int .i64 mm,.string mb,.int .i64 mm,.int .i64 mm,.string mb,.int .i64 mm,.int .i64 mm,.string mb] 89 (0,0))→∀ j u,(marks 3 mc)[j]?=some u→y.cell? ((⟨B,0,none⟩:Addr).add j)=some u):=fun y B hB=>by rw [HMc.out];exact World.news_of_block hB
   have HT1:Hid (Mrk (wr.alloc (.cells #[.int .i64 mm,.int .i64 mm,.string mb] 89)) ao k cp 3 89 mc):=Mrk.low (show Mrk wr ao k cp 3 89 mc from HMr.out) (Alike.alloc wr (.cells #[.int .i64 mm,.int .i64 mm,.string mb] 89) (fun _=>False)) (fun _ _ h=>h)
   have HU1:Hid (∀ j u,(marks 1 mc)[j]?=some u→(wr.alloc (.cells #[.int .i64 mm,.int .i64 mm,.string mb] 89)).cell? ((⟨wr.heap.size,0,none⟩:Addr).add j)=some u):=HNw1.out _ _ (heap_alloc_new _ _)
   go_wp2_with (at_builtin;refine a0f _ rfl (.tmp 25) (.tmp 27) 62 rfl 89 i0 _ 3 32 Tryz.underlying62 hi hz0 hz1 hz2 rfl (by decide) ao k cp mc HMl.out HOne.out rfl HT1.out ⟨wr.heap.size,0,none⟩ 1 1 rfl (show ∀ j u,(marks 1 mc)[j]?=some u→_ from HU1.out) (by decide) (by unfold maxLen;omega) (by omega) ?_)
   intro g1 c1 v1 hM1 hall1 hA1 hg1
   have HAll1:Hid (∀ a' n' cap',Mrk wr a' n' cap' 3 89 mc→Mrk v1 a' n' cap' 3 89 mc):=fun a' n' cap' h=>hall1 _ _ _ (h.low (Alike.alloc _ _ (fun _=>False)) (fun _ _ h=>h))
   have HM1:Hid (Mrk v1 (some ⟨g1,0,none⟩) (k+1) c1 3 89 mc):=hM1
   have HMa1:Hid (Mrk v1 ao k cp 3 89 mc):=HAll1.out _ _ _ HMr.out
   have HA1:Hid (Alike X v1 (onB ao)):=HAr.out.trans ((Alike.alloc _ _ _).trans hA1 (fun _ _ h=>h)) (fun _ _ h=>h)
   have HG1:Hid (onB ao g1∨X.heap.size≤g1):=hg1.elim Or.inl (fun h=>Or.inr (by have:=HAr.out.size;omega))
   clear hM1 hall1 hA1 hg1 q0 q1 q2
   obtain ⟨q0,q1,q2⟩:=HBx.out v1 HA1.out
   have HT2:Hid (Mrk (v1.alloc (.cells #[.int .i64 mm,.int .i64 mm,.string mb,.int .i64 mm,.int .i64 mm,.string mb] 89)) ao k cp 3 89 mc):=Mrk.low (show Mrk v1 ao k cp 3 89 mc from HMa1.out) (Alike.alloc v1 (.cells #[.int .i64 mm,.int .i64 mm,.string mb,.int .i64 mm,.int .i64 mm,.string mb] 89) (fun _=>False)) (fun _ _ h=>h)
   have HU2:Hid (∀ j u,(marks 2 mc)[j]?=some u→(v1.alloc (.cells #[.int .i64 mm,.int .i64 mm,.string mb,.int .i64 mm,.int .i64 mm,.string mb] 89)).cell? ((⟨v1.heap.size,0,none⟩:Addr).add j)=some u):=HNw2.out _ _ (heap_alloc_new _ _)
   go_wp2_with (at_builtin;refine a0f _ rfl (.tmp 29) (.tmp 32) 62 rfl 89 i0 _ 3 32 Tryz.underlying62 hi hz0 hz1 hz2 rfl (by decide) ao k cp mc HMl.out HOne.out rfl HT2.out ⟨v1.heap.size,0,none⟩ 2 2 rfl (show ∀ j u,(marks 2 mc)[j]?=some u→_ from HU2.out) (by decide) (by unfold maxLen;omega) (by omega) ?_)
   intro g2 c2 v2 hM2 hall2 hA2 hg2
   have HAll2:Hid (∀ a' n' cap',Mrk v1 a' n' cap' 3 89 mc→Mrk v2 a' n' cap' 3 89 mc):=fun a' n' cap' h=>hall2 _ _ _ (h.low (Alike.alloc _ _ (fun _=>False)) (fun _ _ h=>h))
   have HM2:Hid (Mrk v2 (some ⟨g2,0,none⟩) (k+2) c2 3 89 mc):=hM2
   have HMa2:Hid (Mrk v2 ao k cp 3 89 mc):=HAll2.out _ _ _ HMa1.out
   have HA2:Hid (Alike X v2 (onB ao)):=HA1.out.trans ((Alike.alloc _ _ _).trans hA2 (fun _ _ h=>h)) (fun _ _ h=>h)
   have HG2:Hid (onB ao g2∨X.heap.size≤g2):=hg2.elim Or.inl (fun h=>Or.inr (by have:=HA1.out.size;omega))
   clear hM2 hall2 hA2 hg2 q0 q1 q2
   obtain ⟨q0,q1,q2⟩:=HBx.out v2 HA2.out
   have HT3:Hid (Mrk (v2.alloc (.cells #[.int .i64 mm,.int .i64 mm,.string mb,.int .i64 mm,.int .i64 mm,.string mb,.int .i64 mm,.int .i64 mm,.string mb] 89)) ao k cp 3 89 mc):=Mrk.low (show Mrk v2 ao k cp 3 89 mc from HMa2.out) (Alike.alloc v2 (.cells #[.int .i64 mm,.int .i64 mm,.string mb,.int .i64 mm,.int .i64 mm,.string mb,.int .i64 mm,.int .i64 mm,.string mb] 89) (fun _=>False)) (fun _ _ h=>h)
   have HU3:Hid (∀ j u,(marks 3 mc)[j]?=some u→(v2.alloc (.cells #[.int .i64 mm,.int .i64 mm,.string mb,.int .i64 mm,.int .i64 mm,.string mb,.int .i64 mm,.int .i64 mm,.string mb] 89)).cell? ((⟨v2.heap.size,0,none⟩:Addr).add j)=some u):=HNw3.out _ _ (heap_alloc_new _ _)
   go_wp2_with (at_builtin;refine a0f _ rfl (.tmp 34) (.tmp 38) 62 rfl 89 i0 _ 3 32 Tryz.underlying62 hi hz0 hz1 hz2 rfl (by decide) ao k cp mc HMl.out HOne.out rfl HT3.out ⟨v2.heap.size,0,none⟩ 3 3 rfl (show ∀ j u,(marks 3 mc)[j]?=some u→_ from HU3.out) (by decide) (by unfold maxLen;omega) (by omega) ?_)
   intro g3 c3 v3 hM3 hall3 hA3 hg3
   have HAll3:Hid (∀ a' n' cap',Mrk v2 a' n' cap' 3 89 mc→Mrk v3 a' n' cap' 3 89 mc):=fun a' n' cap' h=>hall3 _ _ _ (h.low (Alike.alloc _ _ (fun _=>False)) (fun _ _ h=>h))
   have HM3:Hid (Mrk v3 (some ⟨g3,0,none⟩) (k+3) c3 3 89 mc):=hM3
   have HMa3:Hid (Mrk v3 ao k cp 3 89 mc):=HAll3.out _ _ _ HMa2.out
   have HA3:Hid (Alike X v3 (onB ao)):=HA2.out.trans ((Alike.alloc _ _ _).trans hA3 (fun _ _ h=>h)) (fun _ _ h=>h)
   have HG3:Hid (onB ao g3∨X.heap.size≤g3):=hg3.elim Or.inl (fun h=>Or.inr (by have:=HA2.out.size;omega))
   clear hM3 hall3 hA3 hg3 q0 q1 q2
   obtain ⟨q0,q1,q2⟩:=HBx.out v3 HA3.out
   clear q0 q1 q2 hi hz0 hz1 hz2
   have HnB:Hid (¬ onB ao b):=fun h=>by
    obtain ⟨cur,e⟩:=HTy.out
    obtain ⟨_,cur',e'⟩:=HM0.out.lt h
    exact ty_ne e e' (by decide) rfl
   have HnR:Hid (∀ j,onB ad j→¬ onB ao j):=fun j h h'=>by
    obtain ⟨cur,e⟩:=a02 HO.out h
    obtain ⟨_,cur',e'⟩:=HM0.out.lt h'
    exact ty_ne e e' (by decide) rfl
   have HAw:Hid (Alike w v3 (onB ao)):=(Alike.of_below HX.out _).trans HA3.out (fun _ _ h=>h)
   have cw:v3.cell? ⟨b,1,none⟩=some (.slice ad len cap):=HAw.out.cell HC.out HnB.out
   have HO3:Hid (v3.ownsRow 0 62 1 (.slice ad len cap) len xs):=a07 HO.out HAw.out (fun j hj=>HnR.out j hj)
   have HTy3:Hid (∃ cur,v3.heap[b]?=some (.cells cur 79 (0,0))):=by
    obtain ⟨cur,e⟩:=HTy.out
    exact ⟨cur,(HAw.out.block b (lt_of_some e) HnB.out).trans e⟩
   have fz:=a0h HTy3.out 1
   obtain ⟨i1,hi,hz0,hz1,hz2⟩:=info_parts Tryz.az0
   have HT4:Hid ((v3.alloc (.cells #[.slice ao k cp,.slice (some ⟨g1,0,none⟩) (k+1) c1,.slice (some ⟨g2,0,none⟩) (k+2) c2,.slice (some ⟨g3,0,none⟩) (k+3) c3] 62)).ownsRow 0 62 1 (.slice ad len cap) len xs):=World.ownsRow.alloc HO3.out _
   have HOne4:Hid (∀ u∈([.slice ao k cp,.slice (some ⟨g1,0,none⟩) (k+1) c1,.slice (some ⟨g2,0,none⟩) (k+2) c2,.slice (some ⟨g3,0,none⟩) (k+3) c3]:List Value),u.oneCell'=true):=by
    intro u hu
    simp at hu
    rcases hu with rfl | rfl | rfl | rfl<;>rfl
   have hbX:b<v3.heap.size:=lt_of_cell cw
   have hnb:some b≠(Value.slice ad len cap).ownBlock:=fun he=>by
    obtain ⟨cur,e⟩:=HTy3.out
    obtain ⟨_,e'⟩:=a02 HO3.out (a1d HO3.out he.symm)
    exact ty_ne e e' (by decide) rfl
   go_wp2_with (at_builtin;refine wpList_append_lies _ rfl (.tmp 44) (.tmp 49) 38 rfl 0 62 i1 _ 1 24 Tryz.underlying38 hi hz0 hz1 hz2 rfl (by decide) (.slice ad len cap) len xs rfl HT4.out ⟨v3.heap.size,0,none⟩ 4 4 [.slice ao k cp,.slice (some ⟨g1,0,none⟩) (k+1) c1,.slice (some ⟨g2,0,none⟩) (k+2) c2,.slice (some ⟨g3,0,none⟩) (k+3) c3] rfl rfl (World.news_of_block (heap_alloc_new v3 _)) HOne4.out (by decide) (by unfold maxLen;omega) (by omega) (Nat.zero_le _) _ rfl ?_)
   intro g4 c4 v4 hown hgrow hat hlt4
   have c11:v4.cell? ⟨b,1,none⟩=some (.slice ad len cap):=(hgrow.cell_far ⟨b,1,none⟩ (by simp;omega) hnb).trans ((Below.cell (B:=v3.heap.size) (w:=v3) (a00 _ _) (p:=⟨b,1,none⟩) hbX).trans cw)
   have f11:v4.frozen? ⟨b,1,none⟩=false:=(hgrow.frozen_far ⟨b,1,none⟩ (by simp;omega) hnb).trans ((Below.frozen (B:=v3.heap.size) (w:=v3) (a00 _ _) (p:=⟨b,1,none⟩) hbX).trans fz)
   have HA4:Hid (Alike v3 v4 (onB ad)):=(Alike.alloc v3 _ _).trans (Alike.a2h hgrow) (fun j _ h=>a1d HO3.out h)
   have HG4:Hid (onB ad g4∨w.heap.size≤g4):=by
    rcases hat with h | h
    ·exact Or.inl (a1d HO3.out h)
    ·refine Or.inr ?_
     have:=HAw.out.size
     first | omega|(simp at h;omega)
   have HO4:Hid (v4.ownsRow 0 62 1 (.slice (some ⟨g4,0,none⟩) (len+4) c4) (len+4) (xs++[.slice ao k cp,.slice (some ⟨g1,0,none⟩) (k+1) c1,.slice (some ⟨g2,0,none⟩) (k+2) c2,.slice (some ⟨g3,0,none⟩) (k+3) c3])):=hown
   clear hown hgrow hat hlt4 cw fz hnb
   go_wp2_with fail
   refine bodyPost_end (v:=.tuple #[]) (by simp [results,Tryz.results114,go_sem]) rfl ⟨rfl,?_⟩
   obtain ⟨curb,hcb⟩:=HTy3.out
   have hnadb:¬ onB ad b:=fun h=>by
    obtain ⟨_,e⟩:=a02 HO3.out h
    exact ty_ne e hcb (by decide) rfl
   have hset:=Alike.setCell v4 ⟨b,1,none⟩ (.slice (some ⟨g4,0,none⟩) (len+4) c4)
   have h34:Alike v3 (v4.setCell ⟨b,1,none⟩ (.slice (some ⟨g4,0,none⟩) (len+4) c4)) (fun j=>j=b∨onB ad j):=((Alike.refl v3 _).trans HA4.out (fun _ _ h=>Or.inr h)).trans hset (fun _ _ h=>Or.inl h)
   have hb4:v4.heap[b]?=some (.cells curb 79 (0,0)):=(HA4.out.block b (lt_of_some hcb) hnadb).trans hcb
   have hmk:∀ a' n' cap',Mrk v3 a' n' cap' 3 89 mc→Mrk (v4.setCell ⟨b,1,none⟩ (.slice (some ⟨g4,0,none⟩) (len+4) c4)) a' n' cap' 3 89 mc:=fun a' n' cap' h=>h.low h34 (fun j hj hor=>by
    obtain ⟨_,cur,e⟩:=h.lt hj
    rcases hor with rfl | hr
    ·exact ty_ne e hcb (by decide) rfl
    ·obtain ⟨_,e'⟩:=a02 HO3.out hr
     exact ty_ne e e' (by decide) rfl)
   have zX:=HX.out.size
   have hgb:g4≠b:=fun h=>by
    subst h
    obtain ⟨_,e⟩:=a02 HO4.out ⟨0,rfl⟩
    exact ty_ne e hb4 (by decide) rfl
   have hnew:∀ g,(onB ao g∨X.heap.size≤g)→∀ j,onB (some ⟨g,0,none⟩) j→onB ao j∨w.heap.size≤j:=fun g hg j hj=>by
    obtain ⟨off,hj⟩:=hj
    cases hj
    exact hg.elim Or.inl (fun h=>Or.inr (by omega))
   refine ⟨⟨some ⟨g4,0,none⟩,c4,some ⟨g1,0,none⟩,c1,some ⟨g2,0,none⟩,c2,some ⟨g3,0,none⟩,c3,?_,?_,?_,?_,?_,?_,?_,?_⟩,?_,?_,?_⟩
   ·go_simp
   ·exact a07 HO4.out hset (fun j ⟨off,hj⟩ he=>by cases hj;exact hgb he)
   ·rw [HMw.out];exact hmk _ _ _ HMa3.out
   ·rw [HMw.out];exact hmk _ _ _ (HAll3.out _ _ _ (HAll2.out _ _ _ HM1.out))
   ·rw [HMw.out];exact hmk _ _ _ (HAll3.out _ _ _ HM2.out)
   ·rw [HMw.out];exact hmk _ _ _ HM3.out
   ·rintro j (h | h | h)
    ·exact hnew g1 HG1.out j h
    ·exact hnew g2 HG2.out j h
    ·exact hnew g3 HG3.out j h
   ·rintro j ⟨off,hj⟩
    cases hj
    exact HG4.out
   ·exact ((Alike.refl w _).trans HAw.out (fun _ _ h=>Or.inr (Or.inl h))).trans h34 (fun _ _ h=>h.elim Or.inl (fun h=>Or.inr (Or.inr h)))
   ·intro j v hj hv
    have h2:v4.cell? ⟨b,j,none⟩=some v:=HA4.out.cell (HAw.out.cell hv HnB.out) hnadb
    have hj':¬ j=1:=hj
    have hj2:¬ 1=j:=fun h=>hj h.symm
    go_simp
   ·exact ⟨_,heap_setCell_same v4 b 1 curb _ _ hb4⟩
theorem Tryz.b0n:(Tryz.prog.info? 54).map (fun i=>(i.zero,i.size,i.bytes))=some (some (.slice none 0 0),1,24):=by kernel_rfl
structure KeptP (w w':World) (b:Nat) (ad:Option Addr) (len:Nat) (xs:List Value) (ao:Option Addr) (n cp:Nat):Prop where
 how:∃ ad' cap' a1 c1 a2 c2 a3 c3,w'.cell? ⟨b,2,none⟩=some (.slice ad' (len+4) cap')∧w'.ownsRow 0 54 1 (.slice ad' (len+4) cap') (len+4) (xs++[.slice ao n cp,.slice a1 (n+1) c1,.slice a2 (n+2) c2,.slice a3 (n+3) c3])
  ∧ Mrk w' ao n cp 2 109 (mpack len)∧Mrk w' a1 (n+1) c1 2 109 (mpack len)∧Mrk w' a2 (n+2) c2 2 109 (mpack len)∧Mrk w' a3 (n+3) c3 2 109 (mpack len)
  ∧ (∀ k,onB a1 k∨onB a2 k∨onB a3 k→onB ao k∨w.heap.size≤k)∧(∀ k,onB ad' k→onB ad k∨w.heap.size≤k)
 rest:Alike w w' (fun k=>k=b∨onB ao k∨onB ad k)
 others:∀ j v,j≠2→w.cell? ⟨b,j,none⟩=some v→w'.cell? ⟨b,j,none⟩=some v
 ty:∃ cur,w'.heap[b]?=some (.cells cur 79 (0,0))
theorem a8l (b:Nat) (ad:Option Addr) (len cap:Nat) (xs:List Value) (ao:Option Addr) (n cp:Nat) (hl:len≤1000000) (hn:n≤1000000) (hnc:n≤cp) (w:World) (hc:w.cell? ⟨b,2,none⟩=some (.slice ad len cap)) (hty:∃ cur,w.heap[b]?=some (.cells cur 79 (0,0))) (ho:w.ownsRow 0 54 1 (.slice ad len cap) len xs) (hM:Mrk w ao 0 cp 2 109 (mpack len)) :
  Calls Tryz.prog 170 #[.pointer (some ⟨b,0,none⟩),.slice ao n cp] w fun e w'=>e=.returned (.tuple #[])∧KeptP w w' b ad len xs ao n cp:=by
 have HC:Hid (w.cell? ⟨b,2,none⟩=some (.slice ad len cap)):=hc
 have HTy:Hid _:=hty
 have HO:Hid _:=ho
 have HM0:Hid (Mrk w ao 0 cp 2 109 (mpack len)):=hM
 have HMk:Hid (∀ x,Calls Tryz.prog 135 #[.int .i64 (len:Int)] x fun e w'=>e=.returned (.agg #[.int .i64 (-1000-(len:Int)),.string (mbody len)])∧Below x.heap.size x w'):=fun x=>a5f len hl x
 have HMc:Hid (mpack len=[.int .i64 (-1000-(len:Int)),.string (mbody len)]):=rfl
 have HMl:Hid ((mpack len).length=2):=rfl
 obtain ⟨mm,hmm⟩:∃ mm:Int,mm = -1000-(len:Int):=⟨_,rfl⟩
 rw [←hmm] at HMk HMc
 clear hmm hM ho hty
 generalize hmb:mbody len=mb at *
 generalize hmw:mpack len=mc at *
 have HMw:Hid (mpack len=mc):=hmw
 clear hmb hmw
 go_enter Tryz.func170,Tryz.ntmps170
 go_wp2_with fail
 refine (show Calls _ _ _ _ _ from HMk.out w).mono ?_
 rintro e w1 ⟨rfl,hb1⟩
 have HX:Hid (Below w.heap.size w (w1.alloc (.cells #[.int .i64 mm,.string mb] 109))):=bthen hb1 (a00 _ _)
 have HXt:Hid ((w1.alloc (.cells #[.int .i64 mm,.string mb] 109)).heap[w1.heap.size]?=some (.cells #[.int .i64 mm,.string mb] 109 (0,0))):=heap_alloc_new _ _
 have HZ1:Hid (w.heap.size≤w1.heap.size):=hb1.size
 clear hb1 hc
 go_wp2_with fail
 generalize w1.alloc (.cells #[.int .i64 mm,.string mb] 109)=X at *
 have HMX:Hid (Mrk X ao 0 cp 2 109 mc):=HM0.out.low (Alike.of_below HX.out (fun _=>False)) (fun _ _ h=>h)
 have HBx:Hid (∀ y,Alike X y (onB ao)→y.cell? ⟨w1.heap.size,0,none⟩=some (.int .i64 mm)∧y.cell? ⟨w1.heap.size,1,none⟩=some (.string mb)):=fun y hy=>by
  have hne:¬ onB ao w1.heap.size:=fun h=>by
   have:=(HM0.out.lt h).1
   have:=HZ1.out
   omega
  have ht:=(hy.block _ (lt_of_some HXt.out) hne).trans HXt.out
  exact ⟨cell_of_row y _ 0 _ _ (0,0) ht,cell_of_row y _ 1 _ _ (0,0) ht⟩
 go_loopw [5] (fun c wr=>∃ k:Nat,k≤n∧c=.int .i64 k∧Mrk wr ao k cp 2 109 mc∧Alike X wr (onB ao)) (fun c _=>n-(intOf c).toNat)
 case atStart=>exact ⟨0,Nat.zero_le _,rfl,HMX.out,Alike.refl _ _⟩
 case round =>
  obtain ⟨k,hkn,rfl,hMk,hAk⟩:=hrel
  have HMr:Hid _:=hMk
  have HAr:Hid (Alike X wr (onB ao)):=hAk
  obtain ⟨q0,q1⟩:=HBx.out wr hAk
  by_cases hlt:k<n
  ·have hki:(k:Int)<(n:Int):=by omega
   rcases hMk with ⟨_,_,h0⟩ | ⟨g,rfl,⟨cur,hh,hcz⟩,hkc,_⟩
   ·omega
   ·obtain ⟨u0,d0⟩:∃ u,wr.cell? ⟨g,k * 2,none⟩=some u:=⟨cur[k * 2]'(by omega),by rw [cell_of_row wr g _ cur _ (0,0) hh];exact Array.getElem?_eq_getElem _⟩
    obtain ⟨u1,d1⟩:∃ u,wr.cell? ⟨g,k * 2+1,none⟩=some u:=⟨cur[k * 2+1]'(by omega),by rw [cell_of_row wr g _ cur _ (0,0) hh];exact Array.getElem?_eq_getElem _⟩
    have f0:wr.frozen? ⟨g,k * 2,none⟩=false:=frozen_of_row wr g _ cur _ hh
    have f1:wr.frozen? ⟨g,k * 2+1,none⟩=false:=frozen_of_row wr g _ cur _ hh
    have HMn:Hid (Mrk (wr.setCells g (k * 2) mc) (some ⟨g,0,none⟩) (k+1) cp 2 109 mc):=Mrk.store HMl.out HMr.out (by omega)
    have HAn:Hid (Alike X (wr.setCells g (k * 2) mc) (onB (some ⟨g,0,none⟩))):=HAr.out.trans (a1i g mc (k * 2) wr) (fun j _ h=>⟨0,by rw [h]⟩)
    have HEq:Hid (wr.setCells g (k * 2) mc=(wr.setCell ⟨g,k * 2,none⟩ (.int .i64 mm)).setCell ⟨g,k * 2+1,none⟩ (.string mb)):=by show _=_;rw [HMc.out];rfl
    rw [HEq.out] at HMn HAn
    clear hh hcz hkc hAk
    go_wp2_with fail
    go_roundw
    case rel=>exact ⟨k+1,by omega,by go_num,HMn.out,HAn.out⟩
    case measure=>simp [intOf];omega
  ·have hkn':k=n:=by omega
   subst hkn'
   clear hMk hAk
   obtain ⟨i0,hi,hz0,hz1,hz2⟩:=info_parts Tryz.a13
   have HOne:Hid (∀ u∈mc,u.oneCell'=true):=by
    rw [HMc.out]
    intro u hu
    simp at hu
    rcases hu with rfl | rfl<;>rfl
   have HNw1:Hid (∀ (y:World) (B:Nat),y.heap[B]?=some (.cells #[.int .i64 mm,.string mb] 109 (0,0))→∀ j u,(marks 1 mc)[j]?=some u→y.cell? ((⟨B,0,none⟩:Addr).add j)=some u):=fun y B hB=>by rw [HMc.out];exact World.news_of_block hB
   have HNw2:Hid (∀ (y:World) (B:Nat),y.heap[B]?=some (.cells #[.int .i64 mm,.string mb,.int .i64 mm,.string mb] 109 (0,0))→∀ j u,(marks 2 mc)[j]?=some u→y.cell? ((⟨B,0,none⟩:Addr).add j)=some u):=fun y B hB=>by rw [HMc.out];exact World.news_of_block hB
   have HNw3:Hid (∀ (y:World) (B:Nat),y.heap[B]?=some (.cells #[.int .i64 mm,.string mb,.int .i64 mm,.string mb,.int .i64 mm,.string mb] 109 (0,0))→∀ j u,(marks 3 mc)[j]?=some u→y.cell? ((⟨B,0,none⟩:Addr).add j)=some u):=fun y B hB=>by rw [HMc.out];exact World.news_of_block hB
   have HT1:Hid (Mrk (wr.alloc (.cells #[.int .i64 mm,.string mb] 109)) ao k cp 2 109 mc):=Mrk.low (show Mrk wr ao k cp 2 109 mc from HMr.out) (Alike.alloc wr (.cells #[.int .i64 mm,.string mb] 109) (fun _=>False)) (fun _ _ h=>h)
   have HU1:Hid (∀ j u,(marks 1 mc)[j]?=some u→(wr.alloc (.cells #[.int .i64 mm,.string mb] 109)).cell? ((⟨wr.heap.size,0,none⟩:Addr).add j)=some u):=HNw1.out _ _ (heap_alloc_new _ _)
   go_wp2_with (at_builtin;refine a0f _ rfl (.tmp 25) (.tmp 27) 54 rfl 109 i0 _ 2 24 Tryz.underlying54 hi hz0 hz1 hz2 rfl (by decide) ao k cp mc HMl.out HOne.out rfl HT1.out ⟨wr.heap.size,0,none⟩ 1 1 rfl (show ∀ j u,(marks 1 mc)[j]?=some u→_ from HU1.out) (by decide) (by unfold maxLen;omega) (by omega) ?_)
   intro g1 c1 v1 hM1 hall1 hA1 hg1
   have HAll1:Hid (∀ a' n' cap',Mrk wr a' n' cap' 2 109 mc→Mrk v1 a' n' cap' 2 109 mc):=fun a' n' cap' h=>hall1 _ _ _ (h.low (Alike.alloc _ _ (fun _=>False)) (fun _ _ h=>h))
   have HM1:Hid (Mrk v1 (some ⟨g1,0,none⟩) (k+1) c1 2 109 mc):=hM1
   have HMa1:Hid (Mrk v1 ao k cp 2 109 mc):=HAll1.out _ _ _ HMr.out
   have HA1:Hid (Alike X v1 (onB ao)):=HAr.out.trans ((Alike.alloc _ _ _).trans hA1 (fun _ _ h=>h)) (fun _ _ h=>h)
   have HG1:Hid (onB ao g1∨X.heap.size≤g1):=hg1.elim Or.inl (fun h=>Or.inr (by have:=HAr.out.size;omega))
   clear hM1 hall1 hA1 hg1 q0 q1
   obtain ⟨q0,q1⟩:=HBx.out v1 HA1.out
   have HT2:Hid (Mrk (v1.alloc (.cells #[.int .i64 mm,.string mb,.int .i64 mm,.string mb] 109)) ao k cp 2 109 mc):=Mrk.low (show Mrk v1 ao k cp 2 109 mc from HMa1.out) (Alike.alloc v1 (.cells #[.int .i64 mm,.string mb,.int .i64 mm,.string mb] 109) (fun _=>False)) (fun _ _ h=>h)
   have HU2:Hid (∀ j u,(marks 2 mc)[j]?=some u→(v1.alloc (.cells #[.int .i64 mm,.string mb,.int .i64 mm,.string mb] 109)).cell? ((⟨v1.heap.size,0,none⟩:Addr).add j)=some u):=HNw2.out _ _ (heap_alloc_new _ _)
   go_wp2_with (at_builtin;refine a0f _ rfl (.tmp 29) (.tmp 32) 54 rfl 109 i0 _ 2 24 Tryz.underlying54 hi hz0 hz1 hz2 rfl (by decide) ao k cp mc HMl.out HOne.out rfl HT2.out ⟨v1.heap.size,0,none⟩ 2 2 rfl (show ∀ j u,(marks 2 mc)[j]?=some u→_ from HU2.out) (by decide) (by unfold maxLen;omega) (by omega) ?_)
   intro g2 c2 v2 hM2 hall2 hA2 hg2
   have HAll2:Hid (∀ a' n' cap',Mrk v1 a' n' cap' 2 109 mc→Mrk v2 a' n' cap' 2 109 mc):=fun a' n' cap' h=>hall2 _ _ _ (h.low (Alike.alloc _ _ (fun _=>False)) (fun _ _ h=>h))
   have HM2:Hid (Mrk v2 (some ⟨g2,0,none⟩) (k+2) c2 2 109 mc):=hM2
   have HMa2:Hid (Mrk v2 ao k cp 2 109 mc):=HAll2.out _ _ _ HMa1.out
   have HA2:Hid (Alike X v2 (onB ao)):=HA1.out.trans ((Alike.alloc _ _ _).trans hA2 (fun _ _ h=>h)) (fun _ _ h=>h)
   have HG2:Hid (onB ao g2∨X.heap.size≤g2):=hg2.elim Or.inl (fun h=>Or.inr (by have:=HA1.out.size;omega))
   clear hM2 hall2 hA2 hg2 q0 q1
   obtain ⟨q0,q1⟩:=HBx.out v2 HA2.out
   have HT3:Hid (Mrk (v2.alloc (.cells #[.int .i64 mm,.string mb,.int .i64 mm,.string mb,.int .i64 mm,.string mb] 109)) ao k cp 2 109 mc):=Mrk.low (show Mrk v2 ao k cp 2 109 mc from HMa2.out) (Alike.alloc v2 (.cells #[.int .i64 mm,.string mb,.int .i64 mm,.string mb,.int .i64 mm,.string mb] 109) (fun _=>False)) (fun _ _ h=>h)
   have HU3:Hid (∀ j u,(marks 3 mc)[j]?=some u→(v2.alloc (.cells #[.int .i64 mm,.string mb,.int .i64 mm,.string mb,.int .i64 mm,.string mb] 109)).cell? ((⟨v2.heap.size,0,none⟩:Addr).add j)=some u):=HNw3.out _ _ (heap_alloc_new _ _)
   go_wp2_with (at_builtin;refine a0f _ rfl (.tmp 34) (.tmp 38) 54 rfl 109 i0 _ 2 24 Tryz.underlying54 hi hz0 hz1 hz2 rfl (by decide) ao k cp mc HMl.out HOne.out rfl HT3.out ⟨v2.heap.size,0,none⟩ 3 3 rfl (show ∀ j u,(marks 3 mc)[j]?=some u→_ from HU3.out) (by decide) (by unfold maxLen;omega) (by omega) ?_)
   intro g3 c3 v3 hM3 hall3 hA3 hg3
   have HAll3:Hid (∀ a' n' cap',Mrk v2 a' n' cap' 2 109 mc→Mrk v3 a' n' cap' 2 109 mc):=fun a' n' cap' h=>hall3 _ _ _ (h.low (Alike.alloc _ _ (fun _=>False)) (fun _ _ h=>h))
   have HM3:Hid (Mrk v3 (some ⟨g3,0,none⟩) (k+3) c3 2 109 mc):=hM3
   have HMa3:Hid (Mrk v3 ao k cp 2 109 mc):=HAll3.out _ _ _ HMa2.out
   have HA3:Hid (Alike X v3 (onB ao)):=HA2.out.trans ((Alike.alloc _ _ _).trans hA3 (fun _ _ h=>h)) (fun _ _ h=>h)
   have HG3:Hid (onB ao g3∨X.heap.size≤g3):=hg3.elim Or.inl (fun h=>Or.inr (by have:=HA2.out.size;omega))
   clear hM3 hall3 hA3 hg3 q0 q1
   obtain ⟨q0,q1⟩:=HBx.out v3 HA3.out
   clear q0 q1 hi hz0 hz1 hz2
   have HnB:Hid (¬ onB ao b):=fun h=>by
    obtain ⟨cur,e⟩:=HTy.out
    obtain ⟨_,cur',e'⟩:=HM0.out.lt h
    exact ty_ne e e' (by decide) rfl
   have HnR:Hid (∀ j,onB ad j→¬ onB ao j):=fun j h h'=>by
    obtain ⟨cur,e⟩:=a02 HO.out h
    obtain ⟨_,cur',e'⟩:=HM0.out.lt h'
    exact ty_ne e e' (by decide) rfl
   have HAw:Hid (Alike w v3 (onB ao)):=(Alike.of_below HX.out _).trans HA3.out (fun _ _ h=>h)
   have cw:v3.cell? ⟨b,2,none⟩=some (.slice ad len cap):=HAw.out.cell HC.out HnB.out
   have HO3:Hid (v3.ownsRow 0 54 1 (.slice ad len cap) len xs):=a07 HO.out HAw.out (fun j hj=>HnR.out j hj)
   have HTy3:Hid (∃ cur,v3.heap[b]?=some (.cells cur 79 (0,0))):=by
    obtain ⟨cur,e⟩:=HTy.out
    exact ⟨cur,(HAw.out.block b (lt_of_some e) HnB.out).trans e⟩
   have fz:=a0h HTy3.out 2
   obtain ⟨i1,hi,hz0,hz1,hz2⟩:=info_parts Tryz.b0n
   have HT4:Hid ((v3.alloc (.cells #[.slice ao k cp,.slice (some ⟨g1,0,none⟩) (k+1) c1,.slice (some ⟨g2,0,none⟩) (k+2) c2,.slice (some ⟨g3,0,none⟩) (k+3) c3] 54)).ownsRow 0 54 1 (.slice ad len cap) len xs):=World.ownsRow.alloc HO3.out _
   have HOne4:Hid (∀ u∈([.slice ao k cp,.slice (some ⟨g1,0,none⟩) (k+1) c1,.slice (some ⟨g2,0,none⟩) (k+2) c2,.slice (some ⟨g3,0,none⟩) (k+3) c3]:List Value),u.oneCell'=true):=by
    intro u hu
    simp at hu
    rcases hu with rfl | rfl | rfl | rfl<;>rfl
   have hbX:b<v3.heap.size:=lt_of_cell cw
   have hnb:some b≠(Value.slice ad len cap).ownBlock:=fun he=>by
    obtain ⟨cur,e⟩:=HTy3.out
    obtain ⟨_,e'⟩:=a02 HO3.out (a1d HO3.out he.symm)
    exact ty_ne e e' (by decide) rfl
   go_wp2_with (at_builtin;refine wpList_append_lies _ rfl (.tmp 44) (.tmp 49) 72 rfl 0 54 i1 _ 1 24 Tryz.underlying72 hi hz0 hz1 hz2 rfl (by decide) (.slice ad len cap) len xs rfl HT4.out ⟨v3.heap.size,0,none⟩ 4 4 [.slice ao k cp,.slice (some ⟨g1,0,none⟩) (k+1) c1,.slice (some ⟨g2,0,none⟩) (k+2) c2,.slice (some ⟨g3,0,none⟩) (k+3) c3] rfl rfl (World.news_of_block (heap_alloc_new v3 _)) HOne4.out (by decide) (by unfold maxLen;omega) (by omega) (Nat.zero_le _) _ rfl ?_)
   intro g4 c4 v4 hown hgrow hat hlt4
   have c11:v4.cell? ⟨b,2,none⟩=some (.slice ad len cap):=(hgrow.cell_far ⟨b,2,none⟩ (by simp;omega) hnb).trans ((Below.cell (B:=v3.heap.size) (w:=v3) (a00 _ _) (p:=⟨b,2,none⟩) hbX).trans cw)
   have f11:v4.frozen? ⟨b,2,none⟩=false:=(hgrow.frozen_far ⟨b,2,none⟩ (by simp;omega) hnb).trans ((Below.frozen (B:=v3.heap.size) (w:=v3) (a00 _ _) (p:=⟨b,2,none⟩) hbX).trans fz)
   have HA4:Hid (Alike v3 v4 (onB ad)):=(Alike.alloc v3 _ _).trans (Alike.a2h hgrow) (fun j _ h=>a1d HO3.out h)
   have HG4:Hid (onB ad g4∨w.heap.size≤g4):=by
    rcases hat with h | h
    ·exact Or.inl (a1d HO3.out h)
    ·refine Or.inr ?_
     have:=HAw.out.size
     first | omega|(simp at h;omega)
   have HO4:Hid (v4.ownsRow 0 54 1 (.slice (some ⟨g4,0,none⟩) (len+4) c4) (len+4) (xs++[.slice ao k cp,.slice (some ⟨g1,0,none⟩) (k+1) c1,.slice (some ⟨g2,0,none⟩) (k+2) c2,.slice (some ⟨g3,0,none⟩) (k+3) c3])):=hown
   clear hown hgrow hat hlt4 cw fz hnb
   go_wp2_with fail
   refine bodyPost_end (v:=.tuple #[]) (by simp [results,Tryz.results170,go_sem]) rfl ⟨rfl,?_⟩
   obtain ⟨curb,hcb⟩:=HTy3.out
   have hnadb:¬ onB ad b:=fun h=>by
    obtain ⟨_,e⟩:=a02 HO3.out h
    exact ty_ne e hcb (by decide) rfl
   have hset:=Alike.setCell v4 ⟨b,2,none⟩ (.slice (some ⟨g4,0,none⟩) (len+4) c4)
   have h34:Alike v3 (v4.setCell ⟨b,2,none⟩ (.slice (some ⟨g4,0,none⟩) (len+4) c4)) (fun j=>j=b∨onB ad j):=((Alike.refl v3 _).trans HA4.out (fun _ _ h=>Or.inr h)).trans hset (fun _ _ h=>Or.inl h)
   have hb4:v4.heap[b]?=some (.cells curb 79 (0,0)):=(HA4.out.block b (lt_of_some hcb) hnadb).trans hcb
   have hmk:∀ a' n' cap',Mrk v3 a' n' cap' 2 109 mc→Mrk (v4.setCell ⟨b,2,none⟩ (.slice (some ⟨g4,0,none⟩) (len+4) c4)) a' n' cap' 2 109 mc:=fun a' n' cap' h=>h.low h34 (fun j hj hor=>by
    obtain ⟨_,cur,e⟩:=h.lt hj
    rcases hor with rfl | hr
    ·exact ty_ne e hcb (by decide) rfl
    ·obtain ⟨_,e'⟩:=a02 HO3.out hr
     exact ty_ne e e' (by decide) rfl)
   have zX:=HX.out.size
   have hgb:g4≠b:=fun h=>by
    subst h
    obtain ⟨_,e⟩:=a02 HO4.out ⟨0,rfl⟩
    exact ty_ne e hb4 (by decide) rfl
   have hnew:∀ g,(onB ao g∨X.heap.size≤g)→∀ j,onB (some ⟨g,0,none⟩) j→onB ao j∨w.heap.size≤j:=fun g hg j hj=>by
    obtain ⟨off,hj⟩:=hj
    cases hj
    exact hg.elim Or.inl (fun h=>Or.inr (by omega))
   refine ⟨⟨some ⟨g4,0,none⟩,c4,some ⟨g1,0,none⟩,c1,some ⟨g2,0,none⟩,c2,some ⟨g3,0,none⟩,c3,?_,?_,?_,?_,?_,?_,?_,?_⟩,?_,?_,?_⟩
   ·go_simp
   ·exact a07 HO4.out hset (fun j ⟨off,hj⟩ he=>by cases hj;exact hgb he)
   ·rw [HMw.out];exact hmk _ _ _ HMa3.out
   ·rw [HMw.out];exact hmk _ _ _ (HAll3.out _ _ _ (HAll2.out _ _ _ HM1.out))
   ·rw [HMw.out];exact hmk _ _ _ (HAll3.out _ _ _ HM2.out)
   ·rw [HMw.out];exact hmk _ _ _ HM3.out
   ·rintro j (h | h | h)
    ·exact hnew g1 HG1.out j h
    ·exact hnew g2 HG2.out j h
    ·exact hnew g3 HG3.out j h
   ·rintro j ⟨off,hj⟩
    cases hj
    exact HG4.out
   ·exact ((Alike.refl w _).trans HAw.out (fun _ _ h=>Or.inr (Or.inl h))).trans h34 (fun _ _ h=>h.elim Or.inl (fun h=>Or.inr (Or.inr h)))
   ·intro j v hj hv
    have h2:v4.cell? ⟨b,j,none⟩=some v:=HA4.out.cell (HAw.out.cell hv HnB.out) hnadb
    have hj':¬ j=2:=hj
    have hj2:¬ 2=j:=fun h=>hj h.symm
    go_simp
   ·exact ⟨_,heap_setCell_same v4 b 2 curb _ _ hb4⟩
end Go.Proofs.YtabecbjfamphbaaGreatDoor
