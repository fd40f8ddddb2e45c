/- A part of the proof. -/
import Derived.Test.YtabecbjfamphbaaGreatDoorM26
namespace Go.Proofs.YtabecbjfamphbaaGreatDoor
open Go.RowKit Go.Stop Go.Extern
set_option maxRecDepth 100000
set_option maxHeartbeats 1000000 in
theorem b66 (b:Nat) (g:Gr) (p:Nat) (r:RN) (G:RLay) (o x:Int) (hl2:G.fs.length≤1000000000) (w:World) (h:RNd w b g p r G) :
  Calls Tryz.prog 202 #[.pointer (some ⟨b,0,none⟩),.int .i64 o,.int .i64 x] w fun e w'=>e=.returned (.bool (r.has o x))∧Below w.heap.size w w':=by
 have HH:Hid (RNd w b g p r G):=h
 clear h
 go_enter Tryz.func202,Tryz.ntmps202
 go_wp2_with fail
 go_loopw [7] (fun c wr=>∃ k:Nat,k≤G.fs.length∧c=.int .i64 k∧(∀ i f,i<k→r.ws[i]?=some f→¬ (f.org=o∧f.seq=x))∧Below w.heap.size w wr) (fun c _=>G.fs.length-(intOf c).toNat)
 case atStart=>exact ⟨0,Nat.zero_le _,rfl,fun i f hi=>by omega,Below.refl _ _⟩
 case round =>
  obtain ⟨k,hkn,rfl,hno,hb⟩:=hrel
  have HB:Hid (Below w.heap.size w wr):=hb
  have HR:Hid (RNd wr b g p r G):=HH.out.low hb
  have HNo:Hid _:=hno
  have c5:=HR.out.c5
  clear hb hno
  by_cases hlt:k<G.fs.length
  ·have hki:(k:Int)<(G.fs.length:Int):=by omega
   obtain ⟨f,hf⟩:∃ f,G.fs[k]?=some f:=⟨G.fs[k],List.getElem?_eq_getElem _⟩
   obtain ⟨gt,hgt,_,_,q2,q3,_⟩:=HR.out.wget hf
   rw [hgt] at c5
   have HWs:Hid _:=HR.out.wsget hf
   clear hf hgt
   by_cases e:f.org=o∧f.seq=x
   ·have HT:Hid (r.has o x=true):=by
     show _=_
     exact List.any_eq_true.2 ⟨f.fm,List.mem_of_getElem? HWs.out,decide_eq_true e⟩
    rw [e.1] at q2
    rw [e.2] at q3
    go_wp2_with fail
    go_ret
    exact ⟨by rw [HT.out];rfl,HB.out⟩
   ·have HN:Hid (∀ i f,i<k+1→r.ws[i]?=some f→¬ (f.org=o∧f.seq=x)):=fun i f' hi hf'=>by
     by_cases e2:i=k
     ·subst e2
      rw [HWs.out] at hf'
      cases hf'
      exact e
     ·exact HNo.out i f' (by omega) hf'
    by_cases e1:f.org=o
    ·have e3:(f.seq == x)=false:=beq_eq_false_iff_ne.2 (fun h=>e ⟨e1,h⟩)
     rw [e1] at q2
     go_wp2_with fail
     go_roundw
     case rel=>exact ⟨k+1,by omega,by go_num,HN.out,HB.out⟩
     case measure=>simp [intOf];omega
    ·have e3:(f.org == o)=false:=beq_eq_false_iff_ne.2 e1
     go_wp2_with fail
     go_roundw
     case rel=>exact ⟨k+1,by omega,by go_num,HN.out,HB.out⟩
     case measure=>simp [intOf];omega
  ·have hkn':k=G.fs.length:=by omega
   subst hkn'
   have HF:Hid (r.has o x=false):=by
    show _=_
    refine List.any_eq_false.2 (fun f hf=>?_)
    obtain ⟨i,hi⟩:=List.mem_iff_getElem?.1 hf
    have hil:=(List.getElem?_eq_some_iff.1 hi).1
    have h1:=HNo.out i f (by rw [←List.length_map (f:=Fr.fm),HR.out.ws];exact hil) hi
    simpa using h1
   go_wp2_with fail
   go_ret
   exact ⟨by rw [HF.out];rfl,HB.out⟩
set_option maxHeartbeats 1000000 in
theorem b5m (b:Nat) (g:Gr) (p:Nat) (r:RN) (G:RLay) (f:Fr) (o:Nat) (ho:f.org=(o:Int)) (hn:g.n≤8) (hl:r.hd.length≤1000000000) (w:World) (hv:Ints w f.ad g.n f.vec) (h:RNd w b g p r G) :
  Calls Tryz.prog 226 #[.pointer (some ⟨b,0,none⟩),Fr.agg g.n f] w fun e w'=>e=.returned (.bool (r.may g.n f.fm))∧Below w.heap.size w w':=by
 obtain ⟨kd,fm,og,sq,lo,ad,cp,vec,body⟩:=f
 simp only at ho hv
 subst ho
 have HM:Hid (r.may g.n (Fr.mk kd fm (o:Int) sq lo ad cp vec body).fm=decide ((∀ q,q<g.n→vec.getD q 0≤(r.cnt q:Int))∧sq=(r.cnt o:Int)+1)):=by
  show RN.may _ _ _=_
  unfold RN.may
  rfl
 have hbox:=a05 w (.int .i64 kd) (.int .i64 fm) (.int .i64 (o:Int)) (.int .i64 sq) (.int .i64 lo) (.slice ad g.n cp) (.string body) 45
 have HAl:Hid _:=a00 w (.cells #[.int .i64 kd,.int .i64 fm,.int .i64 (o:Int),.int .i64 sq,.int .i64 lo,.slice ad g.n cp,.string body] 45)
 have HI:Hid (Ints w ad g.n vec):=hv
 have HH:Hid (RNd w b g p r G):=h
 have hco:=b6f r o
 unfold Fr.agg
 simp only
 clear h hv
 generalize r.may g.n (Fr.mk kd fm (o:Int) sq lo ad cp vec body).fm=R at *
 have HBox:Hid _:=hbox
 clear hbox
 go_enter Tryz.func226,Tryz.ntmps226
 go_wp2_with fail
 generalize w.alloc (.cells #[.int .i64 kd,.int .i64 fm,.int .i64 (o:Int),.int .i64 sq,.int .i64 lo,.slice ad g.n cp,.string body] 45)=X at *
 have HRX:Hid (RNd X b g p r G):=HH.out.low HAl.out
 have HIX:Hid (Ints X ad g.n vec):=HI.out.below HAl.out
 go_loopw [5] (fun c wr=>∃ k:Nat,k≤g.n∧c=.int .i64 k∧(∀ q,q<k→vec.getD q 0≤(r.cnt q:Int))∧Below X.heap.size X wr) (fun c _=>g.n-(intOf c).toNat)
 case atStart=>exact ⟨0,Nat.zero_le _,rfl,fun q hq=>by omega,Below.refl _ _⟩
 case round =>
  obtain ⟨k,hkn,rfl,hal,hb⟩:=hrel
  have HB:Hid (Below X.heap.size X wr):=hb
  have HA:Hid _:=hal
  have HR:Hid (RNd wr b g p r G):=HRX.out.low hb
  have HBx:Hid _:=HBox.out.below hb HBox.out.z
  have c0:=HR.out.c0
  clear hb hal
  by_cases hlt:k<g.n
  ·have hki:(k:Int)<(g.n:Int):=by omega
   have HC:Hid _:=a1y b g p r G k hl wr HR.out
   obtain ⟨ck,hck⟩:∃ ck,ck=r.cnt k:=⟨_,rfl⟩
   rw [←hck] at HC
   have HCk:Hid (ck=r.cnt k):=hck
   clear hck
   go_wp2_with fail
   refine (show Calls _ _ _ _ _ from HC.out).mono ?_
   rintro e w1 ⟨rfl,hb1⟩
   have HB1:Hid (Below X.heap.size X w1):=bthen HB.out hb1
   have b5:=(HBox.out.below HB1.out HBox.out.z).c5
   obtain ⟨vb,voff,hva,_,q6⟩:=(HIX.out.below HB1.out).cell k hlt
   subst hva
   clear hb1 c0
   obtain ⟨vk,hvk⟩:∃ vk,vk=vec.getD k 0:=⟨_,rfl⟩
   rw [←hvk] at q6
   have HVk:Hid (vk=vec.getD k 0):=hvk
   clear hvk
   by_cases e:(ck:Int)<vk
   ·have HF:Hid (R=false):=by
     show _=_
     rw [HM.out]
     refine decide_eq_false (fun hc=>?_)
     have h1:=hc.1 k hlt
     rw [←HVk.out,←HCk.out] at h1
     omega
    go_wp2_with fail
    go_ret
    exact ⟨by rw [HF.out];rfl,bthen HAl.out HB1.out⟩
   ·have HA1:Hid (∀ q,q<k+1→vec.getD q 0≤(r.cnt q:Int)):=fun q hq=>by
     by_cases e2:q=k
     ·rw [e2,←HVk.out,←HCk.out]
      omega
     ·exact HA.out q (by omega)
    go_wp2_with fail
    go_roundw
    case rel=>exact ⟨k+1,by omega,by go_num,HA1.out,HB1.out⟩
    case measure=>simp [intOf];omega
  ·have hkn':k=g.n:=by omega
   have HA2:Hid (∀ q,q<g.n→vec.getD q 0≤(r.cnt q:Int)):=by rw [←hkn'];exact HA.out
   subst hkn'
   have b2:=HBx.out.c2
   have HC:Hid _:=a1y b g p r G o hl wr HR.out
   obtain ⟨co,hco2⟩:∃ co,co=r.cnt o:=⟨_,rfl⟩
   rw [←hco2] at HC hco
   have HCo:Hid (co=r.cnt o):=hco2
   have hwr:IntKind.i64.wrap ((co:Int)+1)=(co:Int)+1:=by rw [IntKind.wrap_i64];omega
   clear hco2
   go_wp2_with fail
   refine (show Calls _ _ _ _ _ from HC.out).mono ?_
   rintro e w1 ⟨rfl,hb1⟩
   have HB1:Hid (Below X.heap.size X w1):=bthen HB.out hb1
   have b3:=(HBox.out.below HB1.out HBox.out.z).c3
   have HE:Hid (R=(sq == (co:Int)+1)):=by
    show _=_
    rw [HM.out,←HCo.out]
    by_cases e:sq=(co:Int)+1
    ·rw [decide_eq_true ⟨HA2.out,e⟩,e]
     simp
    ·rw [decide_eq_false (fun h=>e h.2)]
     exact (beq_eq_false_iff_ne.2 e).symm
   clear hb1 b2 c0
   go_wp2_with fail
   go_ret
   exact ⟨by rw [HE.out];rfl,bthen HAl.out HB1.out⟩
def bestI:Option Nat→Int
 | none=>-1
 | some j=>(j:Int)
set_option maxHeartbeats 2000000 in
theorem b1h (b:Nat) (g:Gr) (p:Nat) (r:RN) (G:RLay) (hok:∀ f∈r.ws,f.Ok g) (hn:g.n≤8) (hl:r.hd.length≤1000000000) (hl2:G.fs.length≤1000000000) (w:World) (h:RNd w b g p r G) :
  Calls Tryz.prog 203 #[.pointer (some ⟨b,0,none⟩)] w fun e w'=>e=.returned (.int .i64 (bestI (r.best g.n G.fs.length)))∧Below w.heap.size w w':=by
 have HH:Hid (RNd w b g p r G):=h
 have HOk:Hid _:=hok
 clear h hok
 go_enter Tryz.func203,Tryz.ntmps203
 go_wp2_with fail
 go_loopw [3,4] (fun a c wr=>∃ k:Nat,k≤G.fs.length∧c=.int .i64 k∧a=.int .i64 (bestI (r.best g.n k))∧Below w.heap.size w wr) (fun _ c _=>G.fs.length-(intOf c).toNat)
 case atStart=>exact ⟨0,Nat.zero_le _,rfl,rfl,Below.refl _ _⟩
 case round =>
  obtain ⟨k,hkn,rfl,rfl,hb⟩:=hrel
  have HB:Hid (Below w.heap.size w wr):=hb
  have HR:Hid (RNd wr b g p r G):=HH.out.low hb
  have c5:=HR.out.c5
  clear hb
  by_cases hlt:k<G.fs.length
  ·have hki:(k:Int)<(G.fs.length:Int):=by omega
   obtain ⟨f,hf⟩:∃ f,G.fs[k]?=some f:=⟨G.fs[k],List.getElem?_eq_getElem _⟩
   obtain ⟨gt,hgt,q0,q1,q2,q3,q4,q5,q6⟩:=HR.out.wget hf
   rw [hgt] at c5
   have hws:=HR.out.wsget hf
   have hfo:=HOk.out _ (List.mem_of_getElem? hws)
   have HMy:Hid _:=b5m b g p r G f f.org.toNat hfo.a8a.symm hn hl wr (HR.out.fv f (List.mem_of_getElem? hf)) HR.out
   have HBs:Hid (r.best g.n (k+1)=match r.best g.n k with
    | none=>if r.may g.n f.fm then some k else none
    | some j=>if r.may g.n f.fm∧∃ f',r.ws[j]?=some f'∧f.org<f'.org then some k else some j):=by
    show RN.best _ _ _=_
    rw [RN.best,hws]
    rfl
   have HGt:Hid (G.wa=some ⟨gt,0,none⟩):=hgt
   unfold Fr.agg at HMy
   generalize r.may g.n f.fm=mf at *
   clear hws hfo
   go_wp2_with fail
   refine (show Calls _ _ _ _ _ from HMy.out).mono ?_
   rintro e w1 ⟨rfl,hb1⟩
   have HB1:Hid (Below w.heap.size w w1):=bthen HB.out hb1
   have HR1:Hid (RNd w1 b g p r G):=HR.out.low hb1
   clear q0 q1 q2 q3 q4 q5 q6 c5 hb1 hgt
   have HF:Hid (G.fs[k]?=some f):=hf
   clear hf
   cases hbk:r.best g.n k with
   | none =>
    rw [hbk] at HBs
    simp only at HBs
    cases mf with
    | false =>
     have HB2:Hid (r.best g.n (k+1)=none):=by show _=_;rw [HBs.out];rfl
     unfold bestI
     go_wp2_with fail
     go_quiet (fail)
     go_wp2_with fail
     go_roundw
     case rel=>exact ⟨k+1,by omega,by go_num,by rw [HB2.out];rfl,by first | exact HB1.out | exact HB1.out.drew | exact below_drewN HB1.out _⟩
     case measure=>simp [intOf];omega
    | true =>
     have HB2:Hid (r.best g.n (k+1)=some k):=by show _=_;rw [HBs.out];rfl
     unfold bestI
     go_wp2_with fail
     go_quiet (fail)
     go_wp2_with fail
     go_roundw
     case rel=>exact ⟨k+1,by omega,by go_num,by rw [HB2.out];rfl,by first | exact HB1.out | exact HB1.out.drew | exact below_drewN HB1.out _⟩
     case measure=>simp [intOf];omega
   | some j =>
    rw [hbk] at HBs
    simp only at HBs
    obtain ⟨hjk,fj,hfj,_⟩:=a4j hbk
    cases mf with
    | false =>
     have HB2:Hid (r.best g.n (k+1)=some j):=by show _=_;rw [HBs.out,if_neg (fun h=>by cases h.1)]
     clear hfj hbk
     unfold bestI
     go_wp2_with fail
     go_quiet (fail)
     go_wp2_with fail
     go_roundw
     case rel=>exact ⟨k+1,by omega,by go_num,by rw [HB2.out];rfl,by first | exact HB1.out | exact HB1.out.drew | exact below_drewN HB1.out _⟩
     case measure=>simp [intOf];omega
    | true =>
     obtain ⟨fr,hfr⟩:∃ fr,G.fs[j]?=some fr:=⟨G.fs[j],List.getElem?_eq_getElem (by omega)⟩
     have hfe:fj=fr.fm:=by
      have h1:=HR1.out.wsget hfr
      rw [hfj] at h1
      exact Option.some.inj h1
     obtain ⟨gt1,hgt1,_,_,q2,_⟩:=HR1.out.wget HF.out
     obtain ⟨gt2,hgt2,_,_,r2,_⟩:=HR1.out.wget hfr
     have c5:=HR1.out.c5
     have e12:gt1=gt2:=by rw [hgt1] at hgt2;simpa using hgt2
     subst e12
     rw [hgt1] at c5
     have hji:(j:Int)<(G.fs.length:Int):=by omega
     have hj0:¬ (j:Int)<0:=by omega
     by_cases e:f.org<fr.org
     ·have HB2:Hid (r.best g.n (k+1)=some k):=by
       show _=_
       rw [HBs.out,if_pos ⟨rfl,fj,hfj,by rw [hfe];exact e⟩]
      clear hfj hbk hfr hgt1 hgt2 hfe
      unfold bestI
      go_wp2_with fail
      go_quiet (fail)
      go_wp2_with fail
      go_roundw
      case rel=>exact ⟨k+1,by omega,by go_num,by rw [HB2.out];rfl,by first | exact HB1.out | exact HB1.out.drew | exact below_drewN HB1.out _⟩
      case measure=>simp [intOf];omega
     ·have HB2:Hid (r.best g.n (k+1)=some j):=by
       show _=_
       rw [HBs.out,if_neg (fun h=>by
        obtain ⟨_,f',h1,h2⟩:=h
        rw [hfj] at h1
        cases h1
        rw [hfe] at h2
        exact e h2)]
      clear hfj hbk hfr hgt1 hgt2 hfe
      unfold bestI
      go_wp2_with fail
      go_quiet (fail)
      go_wp2_with fail
      go_roundw
      case rel=>exact ⟨k+1,by omega,by go_num,by rw [HB2.out];rfl,by first | exact HB1.out | exact HB1.out.drew | exact below_drewN HB1.out _⟩
      case measure=>simp [intOf];omega
  ·have hkn':k=G.fs.length:=by omega
   subst hkn'
   go_wp2_with fail
   go_ret
   exact ⟨rfl,HB.out⟩
set_option maxHeartbeats 2000000 in
theorem a7k (b:Nat) (g:Gr) (p:Nat) (r:RN) (G:RLay) (f:Fr) (but also:Int) (hk:f.kind=1) (hg:g.Ok) (hp:p<g.n) (hf:f.fm.Ok g) (w:World) (hv:Ints w f.ad g.n f.vec) (h:RNd w b g p r G) :
  Calls Tryz.prog 168 #[.pointer (some ⟨b,0,none⟩),Fr.agg g.n f,.int .i64 but,.int .i64 also] w fun e w'=>(∃ v,e=.returned v∧Pks w' w.heap.size v (passL (textM g p f.fm) p but also g.n))∧Below w.heap.size w w':=by
 have HTx:Hid (textM g p f.fm=txt (a04 g.n 1 p f.org f.seq f.low f.vec f.body)):=a7v hg hp hf
 have hfit:Fits g.n g.W g.B g.L 1 p f.org f.seq f.low f.vec f.body:=a5y hp hf
 have HBt:Hid (∀ y,Below w.heap.size w y→Calls Tryz.prog 173 #[.agg #[.int .i64 (g.n:Int),.int .i64 g.W,.int .i64 g.B,.int .i64 g.L],.agg #[.int .i64 1,.int .i64 (p:Int),.int .i64 f.org,.int .i64 f.seq,.int .i64 f.low,.slice f.ad g.n f.cap,.string f.body]] y fun e w'=>e=.returned (.string (textM g p f.fm))∧Below y.heap.size y w'):=fun y hy=>by
  rw [HTx.out]
  exact a2t g.n g.W g.B g.L 1 p f.org f.seq f.low f.ad g.n f.cap f.body f.vec y (hv.below hy) hg.okG hfit
 have HH:Hid (RNd w b g p r G):=h
 have hn8:=hg.n.2
 obtain ⟨kd,fm,og,sq,lo,ad,cp,vec,body⟩:=f
 simp only at hk HBt
 subst hk
 have HX0:Hid (Below w.heap.size w (w.alloc (.cells #[.int .i64 1,.int .i64 (p:Int),.int .i64 og,.int .i64 sq,.int .i64 lo,.slice ad g.n cp,.string body] 45))):=a00 w _
 have HS0:Hid _:=a05 w (.int .i64 1) (.int .i64 (p:Int)) (.int .i64 og) (.int .i64 sq) (.int .i64 lo) (.slice ad g.n cp) (.string body) 45
 have hfz:∀ i,(w.alloc (.cells #[.int .i64 1,.int .i64 fm,.int .i64 og,.int .i64 sq,.int .i64 lo,.slice ad g.n cp,.string body] 45)).frozen? ⟨w.heap.size,i,none⟩=false:=fun i=>frozen_of_row _ _ i _ 45 (heap_alloc_new _ _)
 generalize textM g p (Fr.mk 1 fm og sq lo ad cp vec body).fm=tx at *
 unfold Fr.agg
 simp only
 have fz:=hfz 1
 have c4:=(h.low (a00 w (.cells #[.int .i64 1,.int .i64 fm,.int .i64 og,.int .i64 sq,.int .i64 lo,.slice ad g.n cp,.string body] 45))).c4
 clear h hv hf hfit hfz HTx
 go_enter Tryz.func168,Tryz.ntmps168
 go_wp2_with fail
 generalize w.alloc (.cells #[.int .i64 1,.int .i64 (p:Int),.int .i64 og,.int .i64 sq,.int .i64 lo,.slice ad g.n cp,.string body] 45)=X at *
 have HRX:Hid (RNd X b g p r G):=HH.out.low HX0.out
 have HSz:Hid (b<X.heap.size∧w.heap.size<X.heap.size):=⟨lt_of_cell HRX.out.c0,HS0.out.z⟩
 have HKp:Hid (∀ y,Below X.heap.size X y→y.cell? ⟨b,0,none⟩=some (.int .i64 (g.n:Int))∧y.cell? ⟨b,1,none⟩=some (.int .i64 g.W)∧y.cell? ⟨b,2,none⟩=some (.int .i64 g.B)∧y.cell? ⟨b,3,none⟩=some (.int .i64 g.L)∧y.cell? ⟨w.heap.size,0,none⟩=some (.int .i64 1)∧y.cell? ⟨w.heap.size,1,none⟩=some (.int .i64 (p:Int))∧y.cell? ⟨w.heap.size,2,none⟩=some (.int .i64 og)∧y.cell? ⟨w.heap.size,3,none⟩=some (.int .i64 sq)∧y.cell? ⟨w.heap.size,4,none⟩=some (.int .i64 lo)∧y.cell? ⟨w.heap.size,5,none⟩=some (.slice ad g.n cp)∧y.cell? ⟨w.heap.size,6,none⟩=some (.string body)):=fun y hy=>by
  have h1:=HRX.out.low hy
  have h2:=HS0.out.below hy HSz.out.2
  exact ⟨h1.c0,h1.c1,h1.c2,h1.c3,h2.c0,h2.c1,h2.c2,h2.c3,h2.c4,h2.c5,h2.c6⟩
 have hk0:=HKp.out X (Below.refl _ _)
 go_region_held3 (fun y=>y.cell? ⟨b,0,none⟩=some (.int .i64 (g.n:Int))∧y.cell? ⟨b,1,none⟩=some (.int .i64 g.W)∧y.cell? ⟨b,2,none⟩=some (.int .i64 g.B)∧y.cell? ⟨b,3,none⟩=some (.int .i64 g.L)∧y.cell? ⟨w.heap.size,0,none⟩=some (.int .i64 1)∧y.cell? ⟨w.heap.size,1,none⟩=some (.int .i64 (p:Int))∧y.cell? ⟨w.heap.size,2,none⟩=some (.int .i64 og)∧y.cell? ⟨w.heap.size,3,none⟩=some (.int .i64 sq)∧y.cell? ⟨w.heap.size,4,none⟩=some (.int .i64 lo)∧y.cell? ⟨w.heap.size,5,none⟩=some (.slice ad g.n cp)∧y.cell? ⟨w.heap.size,6,none⟩=some (.string body)) (first|(exact hk0)|(exact HK1.out) | go_keep)
  (first|(go_at_call 173;refine (show Calls _ _ _ _ _ from HBt.out _ (bthen HX0.out (by first | exact (Below.refl _ _).drew | exact below_drewN (Below.refl _ _) _ | exact Below.refl _ _))).mono ?_;rintro e w1 ⟨rfl,hb1⟩;have HB1:Hid (Below X.heap.size X w1):=bthen (by first | exact (Below.refl _ _).drew | exact below_drewN (Below.refl _ _) _ | exact Below.refl _ _) hb1;have HK1:Hid _:=HKp.out w1 HB1.out;clear hb1))
 rename_i hHeld
 clear hHeld hk0
 have HBw:Hid (Below w.heap.size w w1):=bthen HX0.out HB1.out
 have HR1:Hid (RNd w1 b g p r G):=HRX.out.low HB1.out
 have hsw:w.heap.size≤w1.heap.size:=HBw.out.size
 go_wp2_with fail
 go_loopw [10,11] (fun pv c wr=>∃ k:Nat,k≤g.n∧c=.int .i64 k∧Pks wr w.heap.size pv (passL tx p but also k)∧Below w.heap.size w wr) (fun _ c _=>g.n-(intOf c).toNat)
 case atStart=>exact ⟨0,Nat.zero_le _,rfl,Pks.nil _ _,HBw.out⟩
 case round =>
  obtain ⟨k,hkn,rfl,hps,hbel⟩:=hrel
  have HPS:Hid _:=hps
  have HB:Hid (Below w.heap.size w wr):=hbel
  have HR:Hid (RNd wr b g p r G):=HH.out.low hbel
  have c0:=HR.out.c0
  have c4:=HR.out.c4
  obtain ⟨av,cv,hshape⟩:=a01 hps.own
  subst hshape
  clear hps hbel
  by_cases hlt:k<g.n
  ·have hki:(k:Int)<(g.n:Int):=by omega
   have hzr:=HB.out.size
   by_cases hyes:(k:Int)≠p∧(k:Int)≠but∧(k:Int)≠also
   ·obtain ⟨y1,y2,y3⟩:=hyes
    have HPL:Hid (prow (passL tx p but also (k+1))=prow (passL tx p but also k)++[.int .i64 (k:Int),.string tx]∧(passL tx p but also (k+1)).length=(passL tx p but also k).length+1):=by
     rw [aj7 (tx:=tx) (k:=k) ⟨y1,y2,y3⟩,a0q,List.length_append]
     exact ⟨rfl,rfl⟩
    have HLn:Hid _:=a3j tx p but also k
    obtain ⟨i1,hj,hy0,hy1,hy2⟩:=info_parts Tryz.a13
    have n1:((k:Int) != (p:Int))=true:=by simp;omega
    have n2:((k:Int) != but)=true:=by simp [y2]
    have n3:((k:Int) != also)=true:=by simp [y3]
    go_wp2_with (at_builtin;refine wpList_append_own _ rfl (.tmp 48) (.tmp 52) 54 rfl w.heap.size 109 i1 _ 2 24 Tryz.underlying54 hj hy0 hy1 hy2 rfl (by decide) _ _ _ rfl (World.ownsRow.alloc HPS.out.own _) ⟨wr.heap.size,0,none⟩ 1 1 [.int .i64 (k:Int),.string tx] rfl rfl ?c1 ?c2 (by have:=HLn.out;unfold maxLen;omega) (by have:=HLn.out;omega) (by simp;omega) ?_)
    case c1 =>
     intro q u hq
     match q,hq with
     | 0,hq=>simp at hq;subst hq;simp [Addr.add]
     | 1,hq=>simp at hq;subst hq;simp [Addr.add]
    case c2 =>
     intro u hu
     simp at hu
     rcases hu with rfl | rfl<;>rfl
    intro v4 w4 hown4 hgrow4 _
    have HG4:Hid (Pks w4 w.heap.size v4 (passL tx p but also (k+1))):=by
     refine ⟨?_⟩
     rw [HPL.out.1,HPL.out.2]
     exact hown4
    have HB4:Hid (Below w.heap.size w w4):=(HB.out.alloc hzr _).grown hgrow4 (by simp;omega) HPS.out.block
    obtain ⟨a4,c4',hg4⟩:=a01 hown4
    subst hg4
    clear hown4 hgrow4
    go_wp2_with fail
    go_roundw
    case rel=>exact ⟨k+1,by omega,by go_num,HG4.out,HB4.out⟩
    case measure=>simp [intOf];omega
   ·have HPL:Hid _:=av6 (tx:=tx) (k:=k) hyes
    by_cases y1:(k:Int)=p
    ·have n1:((k:Int) != (p:Int))=false:=by simp [y1]
     clear hyes y1
     go_wp2_with fail
     go_roundw
     case rel=>exact ⟨k+1,by omega,by go_num,by rw [HPL.out];exact HPS.out,HB.out⟩
     case measure=>simp [intOf];omega
    ·have n1:((k:Int) != (p:Int))=true:=by simp;omega
     by_cases y2:(k:Int)=but
     ·have n2:((k:Int) != but)=false:=by simp [y2]
      clear hyes y2
      go_wp2_with fail
      go_roundw
      case rel=>exact ⟨k+1,by omega,by go_num,by rw [HPL.out];exact HPS.out,HB.out⟩
      case measure=>simp [intOf];omega
     ·have n2:((k:Int) != but)=true:=by simp [y2]
      have y3:(k:Int)=also:=Decidable.byContradiction fun h=>hyes ⟨y1,y2,h⟩
      have n3:((k:Int) != also)=false:=by simp [y3]
      clear hyes y3
      go_wp2_with fail
      go_roundw
      case rel=>exact ⟨k+1,by omega,by go_num,by rw [HPL.out];exact HPS.out,HB.out⟩
      case measure=>simp [intOf];omega
  ·have hkn':k=g.n:=by omega
   subst hkn'
   go_wp2_with fail
   go_ret
   exact ⟨⟨_,rfl,HPS.out⟩,HB.out⟩
def Plc (w:World) (la:Option Addr) (ls:List Nat):Prop:=∀ (i j:Nat),ls[i]?=some j→∃ gl,la=some ⟨gl,0,none⟩∧w.cell? ⟨gl,i,none⟩=some (.int .i64 (j:Int))
theorem Plc.low {w y:World} {la:Option Addr} {ls:List Nat} (h:Plc w la ls) (hb:Below w.heap.size w y):Plc y la ls:=fun i j hi=>by
 obtain ⟨gl,e,hc⟩:=h i j hi
 exact ⟨gl,e,(hb.cell (p:=⟨gl,i,none⟩) (lt_of_cell hc)).trans hc⟩
theorem ar7 {r:RN} {ls:List Nat} {k i:Nat} {f:Fm} (hk:ls[k]?=some i) (hf:r.ws[i]?=some f):r.listed (ls.take (k+1))=r.listed (ls.take k)++[f.word]:=by
 unfold RN.listed
 rw [List.take_add_one,hk,List.filterMap_append]
 simp [hf]
theorem b0f (r:RN) (l:List Nat):(r.listed l).length≤l.length:=List.length_filterMap_le _ _
set_option maxHeartbeats 2000000 in
theorem a8n (b:Nat) (g:Gr) (p:Nat) (r:RN) (G:RLay) (la:Option Addr) (lc:Nat) (ls:List Nat) (hl:ls.length≤1000000000) (hin:∀ i∈ls,i<G.fs.length) (w:World) (hp:Plc w la ls) (h:RNd w b g p r G) :
  Calls Tryz.prog 175 #[.pointer (some ⟨b,0,none⟩),.slice la ls.length lc] w fun e w'=>(∃ v,e=.returned v∧Wrd w' w.heap.size v (r.listed ls))∧Below w.heap.size w w':=by
 have HH:Hid (RNd w b g p r G):=h
 have HP:Hid (Plc w la ls):=hp
 have HI:Hid (∀ i∈ls,i<G.fs.length):=hin
 clear h hp hin
 go_enter Tryz.func175,Tryz.ntmps175
 go_wp2_with fail
 go_loopw [5,6] (fun a c wr=>∃ k:Nat,k≤ls.length∧c=.int .i64 k∧Wrd wr w.heap.size a (r.listed (ls.take k))∧Below w.heap.size w wr) (fun _ c _=>ls.length-(intOf c).toNat)
 case atStart=>exact ⟨0,Nat.zero_le _,rfl,⟨rfl,Or.inl ⟨rfl,rfl⟩⟩,Below.refl _ _⟩
 case round =>
  obtain ⟨k,hkn,rfl,hW,hb⟩:=hrel
  have HB:Hid (Below w.heap.size w wr):=hb
  have HW:Hid _:=hW
  have HR:Hid (RNd wr b g p r G):=HH.out.low hb
  have HPr:Hid (Plc wr la ls):=HP.out.low hb
  have c5:=HR.out.c5
  obtain ⟨av,cv,hsh⟩:=a01 hW.own
  subst hsh
  clear hb hW
  by_cases hlt:k<ls.length
  ·have hki:(k:Int)<(ls.length:Int):=by omega
   obtain ⟨i,hi⟩:∃ i,ls[k]?=some i:=⟨ls[k],List.getElem?_eq_getElem _⟩
   have hil:=HI.out i (List.mem_of_getElem? hi)
   obtain ⟨f,hf⟩:∃ f,G.fs[i]?=some f:=⟨G.fs[i],List.getElem?_eq_getElem hil⟩
   obtain ⟨gl,hgl,q⟩:=HPr.out k i hi
   subst hgl
   obtain ⟨gw,hgw,q0,q1,q2,q3,q4,q5,q6⟩:=HR.out.wget hf
   rw [hgw] at c5
   have hili:(i:Int)<(G.fs.length:Int):=by omega
   have HL:Hid (wrow (r.listed (ls.take (k+1)))=wrow (r.listed (ls.take k))++[.int .i64 f.org,.int .i64 f.seq,.string f.body]∧(r.listed (ls.take (k+1))).length=(r.listed (ls.take k)).length+1):=by
    rw [ar7 hi (HR.out.wsget hf),a3y,List.length_append]
    exact ⟨rfl,rfl⟩
   have HLn:Hid ((r.listed (ls.take k)).length≤1000000000):=Nat.le_trans (b0f r _) (by simp;omega)
   obtain ⟨kd,fm,og,sq,lo,fad,cp,vec,body⟩:=f
   simp only at q0 q1 q2 q3 q4 q5 q6 HL
   clear hi hf hgw
   obtain ⟨i1,hj,hy0,hy1,hy2⟩:=info_parts Tryz.a6l
   have hal:∀ (bb ii:Nat) (vv:Value),wr.cell? ⟨bb,ii,none⟩=some vv→∀ o,(wr.alloc o).cell? ⟨bb,ii,none⟩=some vv:=fun bb ii vv hc o=>((a00 wr o).cell (p:=⟨bb,ii,none⟩) (lt_of_cell hc)).trans hc
   have z:=hal _ _ _ q
   have z0:=hal _ _ _ q0
   have z1:=hal _ _ _ q1
   have z2:=hal _ _ _ q2
   have z3:=hal _ _ _ q3
   have z4:=hal _ _ _ q4
   have z5:=hal _ _ _ q5
   have z6:=hal _ _ _ q6
   have zc:=hal _ _ _ c5
   clear hal
   go_wp2_with fail
   go_region
   have HBx:Hid (Below wr.heap.size wr (wr.alloc (.cells #[.int .i64 kd,.int .i64 fm,.int .i64 og,.int .i64 sq,.int .i64 lo,.slice fad g.n cp,.string body] 45)).drew):=(a00 _ _).drew
   have HSv:Hid (Seven wr.heap.size (wr.alloc (.cells #[.int .i64 kd,.int .i64 fm,.int .i64 og,.int .i64 sq,.int .i64 lo,.slice fad g.n cp,.string body] 45)).drew (.int .i64 kd) (.int .i64 fm) (.int .i64 og) (.int .i64 sq) (.int .i64 lo) (.slice fad g.n cp) (.string body)):=(a05 wr (.int .i64 kd) (.int .i64 fm) (.int .i64 og) (.int .i64 sq) (.int .i64 lo) (.slice fad g.n cp) (.string body) 45).below (Below.refl (wr.heap.size+1) _).drew (by omega)
   generalize (wr.alloc (.cells #[.int .i64 kd,.int .i64 fm,.int .i64 og,.int .i64 sq,.int .i64 lo,.slice fad g.n cp,.string body] 45)).drew=X at *
   obtain ⟨_,_,e2,e3,_,_,e6,_⟩:=HSv.out
   have HBX:Hid (Below w.heap.size w X):=bthen HB.out HBx.out
   have HWX:Hid (Wrd X w.heap.size (.slice av (r.listed (ls.take k)).length cv) (r.listed (ls.take k))):=⟨a1a HW.out.own HBx.out⟩
   have hzr:w.heap.size≤X.heap.size:=HBX.out.size
   clear z z0 z1 z2 z3 z4 z5 z6 zc q q0 q1 q2 q3 q4 q5 q6 c5
   go_wp2_with (at_builtin;refine wpList_append_own _ rfl (.tmp 24) (.tmp 32) 62 rfl w.heap.size 89 i1 _ 3 32 Tryz.underlying62 hj hy0 hy1 hy2 rfl (by decide) _ _ _ rfl (World.ownsRow.alloc HWX.out.own _) ⟨X.heap.size,0,none⟩ 1 1 [.int .i64 og,.int .i64 sq,.string body] rfl rfl ?c1 ?c2 (by have:=HLn.out;unfold maxLen;omega) (by have:=HLn.out;omega) (by simp;omega) ?_)
   case c1 =>
    intro q u hq
    match q,hq with
    | 0,hq=>simp at hq;subst hq;simp [Addr.add]
    | 1,hq=>simp at hq;subst hq;simp [Addr.add]
    | 2,hq=>simp at hq;subst hq;simp [Addr.add]
   case c2 =>
    intro u hu
    simp at hu
    rcases hu with rfl | rfl | rfl<;>rfl
   intro v4 w4 hown4 hgrow4 _
   have HG4:Hid (Wrd w4 w.heap.size v4 (r.listed (ls.take (k+1)))):=by
    refine ⟨?_⟩
    rw [HL.out.1,HL.out.2]
    exact hown4
   have HB4:Hid (Below w.heap.size w w4):=(HBX.out.alloc hzr _).grown hgrow4 (by simp;omega) (ab8 HWX.out.own)
   obtain ⟨a4,c4',hg4⟩:=a01 hown4
   subst hg4
   clear hown4 hgrow4
   go_wp2_with fail
   go_roundw
   case rel=>exact ⟨k+1,by omega,by go_num,HG4.out,HB4.out⟩
   case measure=>simp [intOf];omega
  ·have hkn':k=ls.length:=by omega
   subst hkn'
   have HE:Hid (r.listed (ls.take ls.length)=r.listed ls):=by show _=_;rw [List.take_length]
   go_wp2_with fail
   go_ret
   exact ⟨⟨_,rfl,by rw [←HE.out];exact HW.out⟩,HB.out⟩
set_option maxHeartbeats 1000000 in
theorem ax7 (b:Nat) (g:Gr) (p:Nat) (r:RN) (G:RLay) (hl:r.hd.length≤1000000000) (w:World) (h:RNd w b g p r G) :
  Calls Tryz.prog 112 #[.pointer (some ⟨b,0,none⟩)] w fun e w'=>(∃ v,e=.returned v∧Wrd w' w.heap.size v (r.listed r.hd))∧Below w.heap.size w w':=by
 have HL:Hid _:=a8n b g p r G G.ha G.hcap r.hd hl h.hin w (fun i j hi=>h.hget hi) h
 have c6:=h.c6
 clear h
 go_enter Tryz.func112,Tryz.ntmps112
 go_wp2_with fail
 refine (show Calls _ _ _ _ _ from HL.out).mono ?_
 rintro e w1 ⟨⟨v,rfl,hv⟩,hb1⟩
 obtain ⟨av,cv,hsh⟩:=a01 hv.own
 subst hsh
 have HV:Hid _:=hv
 have HB:Hid _:=hb1
 clear hv hb1
 go_wp2_with fail
 go_ret
 exact ⟨⟨_,rfl,HV.out⟩,HB.out⟩
end Go.Proofs.YtabecbjfamphbaaGreatDoor
