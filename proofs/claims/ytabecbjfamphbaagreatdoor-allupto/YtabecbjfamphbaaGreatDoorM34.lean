/- A part of the proof. -/
import Derived.Test.YtabecbjfamphbaaGreatDoorM33
namespace Go.Proofs.YtabecbjfamphbaaGreatDoor
open Go.RowKit Go.Stop Go.Extern
set_option maxRecDepth 100000
set_option maxHeartbeats 4000000
theorem b08 (tx:ByteArray) (p a c:Int) (n:Nat):passL tx p a c n=passL tx p c a n:=by
 unfold passL
 congr 2
 funext q
 exact decide_eq_decide.2 ⟨fun h=>⟨h.1,h.2.2,h.2.1⟩,fun h=>⟨h.1,h.2.2,h.2.1⟩⟩
theorem aw8 (n:Nat):∀ (k:Nat) (r:RN) {i:Nat},(r.run n k).best n (r.run n k).ws.length=some i→(r.run n k).hd.length=r.hd.length+k→r.run n (k+1) = { r.run n k with hd:=(r.run n k).hd++[i] }
 | 0,r,i,h,_=>by
  have h':r.best n r.ws.length=some i:=h
  show (match r.best n r.ws.length with | none=>r | some i=>RN.run n 0 { r with hd:=r.hd++[i] })=_
  rw [h']
  rfl
 | k+1,r,i,h,hl=>by
  cases hb:r.best n r.ws.length with
  | none =>
   have e:r.run n (k+1)=r:=by
    show (match r.best n r.ws.length with | none=>r | some i=>RN.run n k { r with hd:=r.hd++[i] })=_
    rw [hb]
   rw [e] at hl
   omega
  | some j =>
   have e:∀ k,r.run n (k+1)=RN.run n k { r with hd:=r.hd++[j] }:=fun k=>by
    show (match r.best n r.ws.length with | none=>r | some i=>RN.run n k { r with hd:=r.hd++[i] })=_
    rw [hb]
   rw [e k] at h hl
   rw [e (k+1),e k]
   exact aw8 n k _ h (by rw [hl];simp;omega)
theorem av9 (n:Nat):∀ (k:Nat) (r:RN),(r.run n k).best n (r.run n k).ws.length=none→∀ j,r.run n (k+j)=r.run n k
 | 0,r,h,j=>by
  have h':r.best n r.ws.length=none:=h
  cases j with
  | zero=>rfl
  | succ j =>
   rw [Nat.zero_add]
   show (match r.best n r.ws.length with | none=>r | some i=>RN.run n j { r with hd:=r.hd++[i] })=_
   rw [h']
   rfl
 | k+1,r,h,j=>by
  cases hb:r.best n r.ws.length with
  | none =>
   have e:∀ k,r.run n (k+1)=r:=fun k=>by
    show (match r.best n r.ws.length with | none=>r | some i=>RN.run n k { r with hd:=r.hd++[i] })=_
    rw [hb]
   rw [e k,show k+1+j=(k+j)+1 by omega,e (k+j)]
  | some i =>
   have e:∀ k,r.run n (k+1)=RN.run n k { r with hd:=r.hd++[i] }:=fun k=>by
    show (match r.best n r.ws.length with | none=>r | some i=>RN.run n k { r with hd:=r.hd++[i] })=_
    rw [hb]
   rw [e k] at h
   rw [e k,show k+1+j=(k+j)+1 by omega,e (k+j)]
   exact av9 n k _ h j
theorem b7l {r:RN} {n k j:Nat} (h:r.best n k=some j):j<k:=(a4j h).1
theorem Sim.done {g:Gr} {p:Nat} {s:NS} {r:RN} (h:Sim g p s r) (hp:p<g.n) {f:Fm} (hf:f.Ok g) (hop:f.org≠p) (hnew:vw s.vs p f.org.toNat<f.seq) (hw:f.seq≤vw s.vs p f.org.toNat+g.W) (hne:∀ a∈s.st,¬ (a.org=f.org∧a.seq=f.seq)) :
  ((r.with f).run g.n (s.st.length+1)).best g.n ((r.with f).run g.n (s.st.length+1)).ws.length=none:=by
 have m1:=h.begin hf hop hnew hw hne
 have m2:=m1.run hp (s.st.length+1)
 have h1:=m2.next
 have hst:∀ a∈insM s.st f,a.org.toNat<g.n:=fun a ha=>(m1.wok a ((m1.st a).1 ha).1).lt
 have h2:=ag8 hp hst (s.st.length+1) (hs:=s.hs) m1.clk.shp (by
  unfold leftM
  refine Nat.le_trans List.countP_le_length ?_
  rw [ap0]
  exact Nat.le_refl _)
 rw [h2] at h1
 cases e:((r.with f).run g.n (s.st.length+1)).best g.n ((r.with f).run g.n (s.st.length+1)).ws.length with
 | none=>rfl
 | some j =>
  rw [e] at h1
  obtain ⟨_,f',hf',_⟩:=a4j e
  simp only [Option.bind_some] at h1
  rw [hf'] at h1
  cases h1
theorem Sim.runWs {g:Gr} {p:Nat} {s:NS} {r:RN} (h:Sim g p s r) {f:Fm} (hf:f.Ok g) (k:Nat):∀ a∈((r.with f).run g.n k).ws,a.Ok g:=fun a ha=>by
 rw [(b8f g.n k _).1] at ha
 rcases a2r.1 ha with rfl | ha
 ·exact hf
 ·exact h.mid.wok a ha
def a5l (w:World) (b:Nat):Nat:=match w.cell? ⟨b,6,none⟩ with | some (.slice _ n _)=>n | _=>0
theorem b0g (b:Nat) (g:Gr) (p:Nat) (s:NS) (m:Nat) (F:Nat→Prop) (t:ByteArray) (hg:g.Ok) (hp:p<g.n) (ht:t.size≤maxLen) (hx:rAll g.n g.W g.B g.L t=none) (h2:byt t 2=1) (hm:m≤100000000) (w:World) (h:RefAt w b g p s m F) :
  Calls Tryz.prog 171 #[.pointer (some ⟨b,0,none⟩),.string t] w fun e w'=>∃ v,e=.returned (.tuple #[v,.int .i64 ((s.hear g p t).k:Int)])∧RDid w w' b g p F (s.hear g p t).s (m+1) v (s.hear g p t).ps:=by
 have HR0:Hid (RefAt w b g p s m F):=h
 obtain ⟨r,G,hM,hS,hf1,hs1,hft⟩:=h.how
 have hn:=hg.n
 have hW8:=hg.W
 have hL:=hg.L
 have hhd:=hS.short hg hp
 have HS:Hid (Sim g p s r):=hS
 have HM:Hid (RMem w b g p r G):=hM
 have HFt:Hid (∀ k,G.foot b k→F k):=hft
 have c0:=hM.nd.c0
 have c1:=hM.nd.c1
 have c2:=hM.nd.c2
 have c3:=hM.nd.c3
 have HD:Hid _:=a5a g.n g.W g.B g.L t w hg.okG ht (ai7 hx) h2
 obtain ⟨hdok,hfn⟩:=ac4 hx h2
 have hst64:=hS.ok.short hg
 have HOk:Hid ((a1c g.n t).Ok g):=hdok
 have HDf:Hid (a1c g.n t=⟨byt t 5,val t 6 2,val t 8 2,vecOf t 10 g.n,t.extract (11+2 * g.n) (t.size-4)⟩):=rfl
 have HE1:Hid (byt t 4=p→s.hear g p t=⟨6,[],s⟩):=fun e=>by unfold NS.hear;rw [hx];simp only;rw [if_pos e]
 have HE2:Hid (byt t 4≠p→byt t 5=p→s.hear g p t=⟨6,[],s⟩):=fun e e2=>by unfold NS.hear;rw [hx];simp only;rw [if_neg e,if_pos h2,if_pos e2]
 have HE3:Hid (byt t 4≠p→byt t 5≠p→s.newK g p (a1c g.n t)≠0→s.hear g p t=⟨s.newK g p (a1c g.n t),[],s⟩):=fun e e2 e3=>by unfold NS.hear;rw [hx];simp only;rw [if_neg e,if_pos h2,if_neg e2,if_neg e3]
 have HE4:Hid (byt t 4≠p→byt t 5≠p→s.newK g p (a1c g.n t)=0→s.hear g p t=⟨0,passL (textM g p (a1c g.n t)) p (byt t 5) (byt t 4) g.n,s.got g p (a1c g.n t)⟩):=fun e e2 e3=>by unfold NS.hear;rw [hx];simp only;rw [if_neg e,if_pos h2,if_neg e2,if_pos e3]
 have HVl:Hid ((vecOf t 10 g.n).length=g.n):=a06 t 10 g.n
 have hon:byt t 5<g.n:=by have h1:=hdok.lt;have h2:=hdok.a8a;have h3:(a1c g.n t).org=(byt t 5:Int):=rfl;omega
 have hsq:1≤(val t 6 2:Int)∧(val t 6 2:Int)≤g.L:=hdok.seq
 have HNk:Hid (s.newK g p (a1c g.n t)=if (val t 6 2:Int)≤vw s.vs p (byt t 5) then 7 else if s.st.any (fun a=>decide (a.org=(byt t 5:Int)∧a.seq=(val t 6 2:Int)))=true then 7 else if vw s.vs p (byt t 5)+g.W<(val t 6 2:Int) then 8 else 0):=rfl
 have HHs:Hid (vw s.vs p (byt t 5)<(val t 6 2:Int)→r.has (byt t 5:Int) (val t 6 2:Int)=s.st.any (fun a=>decide (a.org=(byt t 5:Int)∧a.seq=(val t 6 2:Int)))):=fun hlt=>by
  have h1:=hS.has hlt
  rw [Bool.eq_iff_iff,h1]
  simp
 have hbd:=hS.ok.clk.bd p (byt t 5) hp hon
 have HCt:Hid (∀ y,Below w.heap.size w y→Calls Tryz.prog 166 #[.pointer (some ⟨b,0,none⟩),.int .i64 ((byt t 5:Nat):Int)] y fun e w'=>e=.returned (.int .i64 (vw s.vs p (byt t 5)))∧Below y.heap.size y w'):=fun y hy=>by
  rw [←hS.mid.cnt hon]
  exact a1y b g p r G (byt t 5) (by omega) y (hM.nd.low hy)
 have HHa:Hid (∀ y,Below w.heap.size w y→Calls Tryz.prog 202 #[.pointer (some ⟨b,0,none⟩),.int .i64 ((byt t 5:Nat):Int),.int .i64 (val t 6 2:Int)] y fun e w'=>e=.returned (.bool (r.has (byt t 5:Int) (val t 6 2:Int)))∧Below y.heap.size y w'):=fun y hy=>b66 b g p r G (byt t 5:Int) (val t 6 2:Int) (by omega) y (hM.nd.low hy)
 clear h hS hM hft hx h2 hdok
 generalize s.hear g p t=res at *
 generalize byt t 4=fr at *
 generalize byt t 5=o at *
 generalize (val t 6 2:Int)=sq at *
 generalize (val t 8 2:Int)=lo at *
 generalize vecOf t 10 g.n=vs at *
 generalize t.extract (11+2 * g.n) (t.size-4)=bd at *
 generalize a1c g.n t=df at *
 generalize hnk:s.newK g p df=nk at *
 generalize hany:s.st.any (fun a=>decide (a.org=(o:Int)∧a.seq=sq))=an at *
 generalize r.has (o:Int) sq=rh at *
 obtain ⟨vo,hvo⟩:∃ vo,vo=vw s.vs p o:=⟨_,rfl⟩
 rw [←hvo] at HNk HHs hbd HCt
 have HVo:Hid (vo=vw s.vs p o):=hvo
 have HNK:Hid (s.newK g p df=nk):=hnk
 clear hvo hnk hany
 go_enter Tryz.func171,Tryz.ntmps171
 go_wp2_with fail
 refine (show Calls _ _ _ _ _ from HD.out).mono ?_
 rintro e w1 ⟨⟨v,rfl,hov⟩,hb1⟩
 obtain ⟨ga,cc,hcv,hga,hgt,hci⟩:=ar9 (n:=g.n) (vs:=vs) (by omega) (by have h1:=hov;unfold OwnI at h1;rw [HVl.out] at h1;exact h1)
 subst hcv
 have HB1:Hid (Below w.heap.size w w1):=hb1
 have HVt:Hid (∃ cur,w1.heap[ga]?=some (.cells cur 3 (0,0))):=hgt
 have HVi:Hid (Ints w1 (some ⟨ga,0,none⟩) g.n vs):=hci
 have HGa:Hid (w.heap.size≤ga):=hga
 have HBx:Hid (Below w1.heap.size w1 (w1.alloc (.cells #[.int .i64 1,.int .i64 (fr:Int),.int .i64 (o:Int),.int .i64 sq,.int .i64 lo,.slice (some ⟨ga,0,none⟩) g.n cc,.string bd] 45))):=a00 _ _
 have HSv:Hid (Seven w1.heap.size (w1.alloc (.cells #[.int .i64 1,.int .i64 (fr:Int),.int .i64 (o:Int),.int .i64 sq,.int .i64 lo,.slice (some ⟨ga,0,none⟩) g.n cc,.string bd] 45)) (.int .i64 1) (.int .i64 (fr:Int)) (.int .i64 (o:Int)) (.int .i64 sq) (.int .i64 lo) (.slice (some ⟨ga,0,none⟩) g.n cc) (.string bd)):=a05 w1 (.int .i64 1) (.int .i64 (fr:Int)) (.int .i64 (o:Int)) (.int .i64 sq) (.int .i64 lo) (.slice (some ⟨ga,0,none⟩) g.n cc) (.string bd) 45
 clear hov hb1 hgt hci hga c0 c1 c2 c3
 go_wp2_with fail
 generalize w1.alloc (.cells #[.int .i64 1,.int .i64 (fr:Int),.int .i64 (o:Int),.int .i64 sq,.int .i64 lo,.slice (some ⟨ga,0,none⟩) g.n cc,.string bd] 45)=X at *
 have HBX:Hid (Below w.heap.size w X):=bthen HB1.out HBx.out
 have HMX:Hid (RMem X b g p r G):=HM.out.low HBX.out
 have c4:=HMX.out.nd.c4
 have s0:=HSv.out.c0
 have s1:=HSv.out.c1
 have s2:=HSv.out.c2
 by_cases hfp:fr=p
 ·have HR:Hid (res=⟨6,[],s⟩):=HE1.out hfp
  subst hfp
  go_region
  go_wp2_with fail
  go_ret2
  rw [HR.out]
  exact ⟨_,rfl,RDid.none HR0.out (by first | exact HBX.out | exact HBX.out.drew | exact below_drewN HBX.out _)⟩
 ·have b1:((fr:Int) == (p:Int))=false:=by simp;omega
  by_cases hop:o=p
  ·have HR:Hid (res=⟨6,[],s⟩):=HE2.out hfp hop
   subst hop
   go_region
   go_wp2_with fail
   go_ret2
   rw [HR.out]
   exact ⟨_,rfl,RDid.none HR0.out (by first | exact HBX.out | exact HBX.out.drew | exact below_drewN HBX.out _)⟩
  ·have b2:((o:Int) == (p:Int))=false:=by simp;omega
   go_region
   have HBd:Hid (Below X.heap.size X X.drew):=(Below.refl _ _).drew
   clear c4 s0 s1 s2
   have s2:=(HSv.out.below HBd.out HSv.out.z).c2
   have s3:=(HSv.out.below HBd.out HSv.out.z).c3
   have s0:=(HSv.out.below HBd.out HSv.out.z).c0
   have HVz:Hid (w1.heap.size<X.drew.heap.size):=HSv.out.z
   have HSV:Hid (Seven w1.heap.size X.drew (.int .i64 1) (.int .i64 (fr:Int)) (.int .i64 (o:Int)) (.int .i64 sq) (.int .i64 lo) (.slice (some ⟨ga,0,none⟩) g.n cc) (.string bd)):=HSv.out.below HBd.out HSv.out.z
   generalize X.drew=V at *
   have HBV:Hid (Below w.heap.size w V):=bthen HBX.out HBd.out
   go_wp2_with fail
   refine (show Calls _ _ _ _ _ from HHa.out V HBV.out).mono ?_
   rintro e w2 ⟨rfl,hb2⟩
   have HB2V:Hid (Below V.heap.size V w2):=hb2
   have HB2:Hid (Below w.heap.size w w2):=bthen HBV.out hb2
   clear hb2 s0 s2 s3
   have s2:=(HSV.out.below HB2V.out HSV.out.z).c2
   go_wp2_with fail
   refine (show Calls _ _ _ _ _ from HCt.out w2 HB2.out).mono ?_
   rintro e w3 ⟨rfl,hb3⟩
   have HB3V:Hid (Below V.heap.size V w3):=bthen HB2V.out hb3
   have HB3:Hid (Below w.heap.size w w3):=bthen HB2.out hb3
   have HM3:Hid (RMem w3 b g p r G):=HM.out.low HB3.out
   have HS3:Hid (Seven w1.heap.size w3 (.int .i64 1) (.int .i64 (fr:Int)) (.int .i64 (o:Int)) (.int .i64 sq) (.int .i64 lo) (.slice (some ⟨ga,0,none⟩) g.n cc) (.string bd)):=HSV.out.below HB3V.out HSV.out.z
   clear hb3 s2
   have s3:=HS3.out.c3
   have c1:=HM3.out.nd.c1
   have hw1:IntKind.i64.wrap (vo+g.W)=vo+g.W:=by rw [IntKind.wrap_i64];omega
   by_cases hrh:rh=true
   ·have HN7:Hid (nk=7):=HNk.out.trans (by
     by_cases h1:sq≤vo
     ·rw [if_pos h1]
     ·rw [if_neg h1,if_pos (by rw [←HHs.out (by omega)];exact hrh)])
    have HR:Hid (res=⟨7,[],s⟩):=by
     have h1:=HE3.out hfp hop (by rw [HN7.out];decide)
     rw [HN7.out] at h1
     exact h1
    subst hrh
    go_wp2_with fail
    go_ret2
    rw [HR.out]
    exact ⟨_,rfl,RDid.none HR0.out HB3.out⟩
   ·have hrf:rh=false:=by simpa using hrh
    by_cases h1:sq≤vo
    ·have HN7:Hid (nk=7):=HNk.out.trans (if_pos h1)
     have HR:Hid (res=⟨7,[],s⟩):=by
      have h1:=HE3.out hfp hop (by rw [HN7.out];decide)
      rw [HN7.out] at h1
      exact h1
     subst hrf
     go_wp2_with fail
     go_ret2
     rw [HR.out]
     exact ⟨_,rfl,RDid.none HR0.out HB3.out⟩
    ·have HAn:Hid (an=false):=by show _=_;rw [←HHs.out (by omega)];exact hrf
     subst hrf
     clear hrh
     by_cases h3:vo+g.W<sq
     ·have HN8:Hid (nk=8):=HNk.out.trans (by rw [if_neg h1,HAn.out,if_neg (by decide),if_pos h3])
      have HR:Hid (res=⟨8,[],s⟩):=by
       have h1:=HE3.out hfp hop (by rw [HN8.out];decide)
       rw [HN8.out] at h1
       exact h1
      go_wp2_with fail
      go_quiet (fail)
      go_wp2_with fail
      go_ret2
      rw [HR.out]
      exact ⟨_,rfl,RDid.none HR0.out (by first | exact HB3.out | exact HB3.out.drew | exact below_drewN HB3.out _)⟩
     ·have HN0:Hid (nk=0):=HNk.out.trans (by rw [if_neg h1,HAn.out,if_neg (by decide),if_neg h3])
      have HR:Hid (res=⟨0,passL (textM g p df) p o fr g.n,s.got g p df⟩):=HE4.out hfp hop HN0.out
      go_wp2_with fail
      go_quiet (fail)
      go_wp2_with fail
      have HBn:Hid (Below w3.heap.size w3 (w3.drewN nq)):=below_drewN (Below.refl _ _) _
      generalize w3.drewN nq=U at *
      have HBU:Hid (Below w.heap.size w U):=bthen HB3.out HBn.out
      have HMU:Hid (RMem U b g p r G):=HM.out.low HBU.out
      have HSU:Hid (Seven w1.heap.size U (.int .i64 1) (.int .i64 (fr:Int)) (.int .i64 (o:Int)) (.int .i64 sq) (.int .i64 lo) (.slice (some ⟨ga,0,none⟩) g.n cc) (.string bd)):=HS3.out.below HBn.out HS3.out.z
      have HVU:Hid (VecAt U g.n ⟨1,fr,(o:Int),sq,lo,some ⟨ga,0,none⟩,cc,vs,bd⟩):=VecAt.low (w:=w1) ⟨HVi.out,by obtain ⟨cur,e⟩:=HVt.out;exact ⟨ga,cur,rfl,e⟩⟩ (bthen (bthen HBx.out HBd.out) (bthen HB3V.out HBn.out))
      clear s3 c1
      obtain ⟨s0,s1,s2,s3,s4,s5,s6,sz⟩:=HSU.out
      have c5:=HMU.out.nd.c5
      have fz:=a0h HMU.out.nd.ty 5
      have hbX:b<U.heap.size:=lt_of_cell c5
      have hnb:some b≠(Value.slice G.wa G.fs.length G.wcap).ownBlock:=fun he=>by
       obtain ⟨cur,e⟩:=HMU.out.nd.ty
       obtain ⟨_,e'⟩:=a02 HMU.out.nd.wo.own (a1d HMU.out.nd.wo.own he.symm)
       exact ty_ne e e' (by decide) rfl
      obtain ⟨i0,hi,hz0,hz1,hz2⟩:=info_parts Tryz.a2w
      have hone:∀ u∈([.int .i64 1,.int .i64 (fr:Int),.int .i64 (o:Int),.int .i64 sq,.int .i64 lo,.slice (some ⟨ga,0,none⟩) g.n cc,.string bd]:List Value),u.oneCell'=true:=by
       intro u hu
       simp at hu
       rcases hu with rfl | rfl | rfl | rfl | rfl | rfl | rfl<;>rfl
      have HO:Hid (∀ x:World,Below U.heap.size U x→x.ownsRow 0 45 7 (.slice G.wa G.fs.length G.wcap) G.fs.length (frow g.n G.fs)):=fun x hx=>(HMU.out.low hx).nd.wo.own
      go_cut [] from 86 (fun wc=>Grew U wc b 5 45 7 G.wa (G.fs.length+1) (frow g.n (G.fs++[⟨1,fr,(o:Int),sq,lo,some ⟨ga,0,none⟩,cc,vs,bd⟩])))
      case first =>
       go_region_law
        (refine step_append_lies _ rfl (.tmp 90) (.tmp 92) 147 rfl 0 45 i0 _ 7 80 Tryz.underlying147 hi hz0 hz1 hz2 rfl (by decide) (.slice G.wa G.fs.length G.wcap) G.fs.length (frow g.n G.fs) (by simp [Act.eval]) (HO.out _ (by first | exact (a00 _ _).drew | exact ((Below.refl _ _).drew).trans (a00 _ _) | exact a00 _ _)) ⟨U.heap.size,0,none⟩ 1 1 [.int .i64 1,.int .i64 (fr:Int),.int .i64 (o:Int),.int .i64 sq,.int .i64 lo,.slice (some ⟨ga,0,none⟩) g.n cc,.string bd] (by simp [Act.eval]) rfl (World.news_of_block (heap_alloc_new U _)) hone (by decide) (by unfold maxLen;omega) (by omega) (Nat.zero_le _) _ rfl ?_;intro g' cap' v1 hown hgrow hat hlt2;have HO1:Hid (World.ownsRow v1 0 45 7 (.slice (some ⟨g',0,none⟩) (G.fs.length+1) cap') (G.fs.length+1) (frow g.n G.fs++[.int .i64 1,.int .i64 (fr:Int),.int .i64 (o:Int),.int .i64 sq,.int .i64 lo,.slice (some ⟨ga,0,none⟩) g.n cc,.string bd])):=hown;have HX:Hid (∃ x0:World,∃ H:Nat,Below U.heap.size U x0∧x0.grownBy v1 (Value.slice G.wa G.fs.length G.wcap).ownBlock∧((Value.slice G.wa G.fs.length G.wcap).ownBlock=some g'∨g'=H)∧U.heap.size≤H):=⟨_,_,(by first | exact (a00 _ _).drew | exact ((Below.refl _ _).drew).trans (a00 _ _) | exact a00 _ _),hgrow,hat,(by simp)⟩;have c11:v1.cell? ⟨b,5,none⟩=some (.slice G.wa G.fs.length G.wcap):=(hgrow.cell_far ⟨b,5,none⟩ (by simp;omega) hnb).trans ((Below.cell (B:=U.heap.size) (w:=U) (by first | exact (a00 _ _).drew | exact ((Below.refl _ _).drew).trans (a00 _ _) | exact a00 _ _) (p:=⟨b,5,none⟩) hbX).trans c5);have f11:v1.frozen? ⟨b,5,none⟩=false:=(hgrow.frozen_far ⟨b,5,none⟩ (by simp;omega) hnb).trans ((Below.frozen (B:=U.heap.size) (w:=U) (by first | exact (a00 _ _).drew | exact ((Below.refl _ _).drew).trans (a00 _ _) | exact a00 _ _) (p:=⟨b,5,none⟩) hbX).trans fz);clear hown hgrow hat hlt2)
       all_goals
        go_wp2_with fail
        go_meet
        case rel =>
         obtain ⟨x0,H,hx0,hgr,hat,hH⟩:=HX.out
         rw [a1e]
         exact a9h (i:=5) (u:=.slice G.wa G.fs.length G.wcap) HMU.out.nd.ty (by decide) HMU.out.nd.wo.own hx0 hgr hat hH HO1.out c11
      case rest =>
       obtain ⟨Y,hY⟩:∃ Y,Y=wc:=⟨_,rfl⟩
       subst hY
       have hG2:Grew U Y b 5 45 7 G.wa (G.fs.length+1) (frow g.n (G.fs++[⟨1,fr,(o:Int),sq,lo,some ⟨ga,0,none⟩,cc,vs,bd⟩])):=hcut
       have HAl:Hid (Alike U Y F):=(Alike.refl U _).trans hG2.rest (fun k _ hk=>HFt.out k (hk.elim Or.inl (fun h=>Or.inr (Or.inl h))))
       have HSY:Hid (Seven w1.heap.size Y (.int .i64 1) (.int .i64 (fr:Int)) (.int .i64 (o:Int)) (.int .i64 sq) (.int .i64 lo) (.slice (some ⟨ga,0,none⟩) g.n cc) (.string bd)):=HSU.out.alike hG2.rest (fun hor=>by
        have h1:=(HM.out.low HB1.out).a1k (k:=w1.heap.size) (hor.elim Or.inl (fun h=>Or.inr (Or.inl h)))
        omega)
       obtain ⟨G2,hM2',hfs2,hss2,hha2,hft2⟩:=HMU.out.word hG2 rfl HVU.out (fun k hk hs=>by
        obtain ⟨off,hk⟩:=hk
        cases hk
        have h1:=HM.out.a1k (k:=ga) (Or.inr (Or.inr (Or.inl hs)))
        have h2:=HGa.out
        omega)
       have HFm:Hid (Fr.fm ⟨1,fr,(o:Int),sq,lo,some ⟨ga,0,none⟩,cc,vs,bd⟩=df):=HDf.out.symm
       have HMY:Hid (RMem Y b g p (r.with df) G2):=by rw [←HFm.out];exact hM2'
       have HFs2:Hid (G2.fs=G.fs++[⟨1,fr,(o:Int),sq,lo,some ⟨ga,0,none⟩,cc,vs,bd⟩]):=hfs2
       have HSs2:Hid (G2.ss=G.ss):=hss2
       have HFt2:Hid (∀ k,G2.foot b k→G.foot b k∨onB (some ⟨ga,0,none⟩) k∨U.heap.size≤k):=hft2
       have HVY:Hid (Ints Y (some ⟨ga,0,none⟩) g.n vs):=(hM2'.fv ⟨1,fr,(o:Int),sq,lo,some ⟨ga,0,none⟩,cc,vs,bd⟩ (by rw [hfs2];simp)).ints
       have HPk:Hid (Calls Tryz.prog 168 #[.pointer (some ⟨b,0,none⟩),.agg #[.int .i64 1,.int .i64 (fr:Int),.int .i64 (o:Int),.int .i64 sq,.int .i64 lo,.slice (some ⟨ga,0,none⟩) g.n cc,.string bd],.int .i64 (fr:Int),.int .i64 (o:Int)] Y fun e w'=>(∃ v,e=.returned v∧Pks w' Y.heap.size v (passL (textM g p df) p o fr g.n))∧Below Y.heap.size Y w'):=by
        have h1:=a7k b g p _ G2 ⟨1,fr,(o:Int),sq,lo,some ⟨ga,0,none⟩,cc,vs,bd⟩ (fr:Int) (o:Int) rfl hg hp (by rw [HFm.out];exact HOk.out) Y HVY.out HMY.out.nd
        rw [HFm.out,b08] at h1
        exact h1
       clear hcut hG2 c5 fz hnb HO hone s0 s1 s2 s3 s4 s5 s6 sz hi hz0 hz1 hz2 hM2' hfs2 hss2 hha2 hft2
       obtain ⟨s0,s1,s2,s3,s4,s5,s6,sz⟩:=HSY.out
       generalize passL (textM g p df) p o fr g.n=pks at *
       go_wp2_with fail
       refine (show Calls _ _ _ _ _ from HPk.out).mono ?_
       rintro e w5 ⟨⟨pv,rfl,hps⟩,hb5⟩
       obtain ⟨pa,pc,hpv⟩:=a01 hps.own
       subst hpv
       have HPs:Hid (Pks w5 Y.heap.size (.slice pa pks.length pc) pks):=hps
       have HB5:Hid (Below Y.heap.size Y w5):=hb5
       have HM5:Hid (RMem w5 b g p (r.with df) G2):=HMY.out.low hb5
       clear hps hb5 s0 s1 s2 s3 s4 s5 s6 sz
       obtain ⟨i0,hi,hz0,hz1,hz2⟩:=info_parts Tryz.a3d
       have HZ:Hid _:=a8h (HNK.out.trans HN0.out)
       have HOp:Hid (df.org≠p):=by show _≠_;rw [HDf.out];show (o:Int)≠(p:Int);omega
       have HDn:Hid (((r.with df).run g.n (s.st.length+1)).best g.n ((r.with df).run g.n (s.st.length+1)).ws.length=none):=HS.out.done hp HOk.out HOp.out HZ.out.1 HZ.out.2.1 HZ.out.2.2
       have HGt:Hid (Sim g p (s.got g p df) ((r.with df).run g.n (s.st.length+1))):=HS.out.got hp HOk.out HOp.out HZ.out.1 HZ.out.2.1 HZ.out.2.2
       have HWk:Hid (∀ k,∀ a∈((r.with df).run g.n k).ws,a.Ok g):=fun k=>HS.out.runWs HOk.out k
       have hlfs:G2.fs.length≤100000001:=by rw [HFs2.out,List.length_append];simp;omega
       have hrhd:(r.with df).hd.length≤524280:=hhd
       have HF2z:Hid (∀ j,G2.foot b j→j<Y.heap.size):=fun j hj=>HMY.out.a1k hj
       have HBb:Hid (G2.foot b b):=Or.inl rfl
       have hKb:s.st.length+1≤65:=by omega
       generalize hrw:r.with df=rw0 at *
       generalize s.st.length+1=K at *
       go_wp2_with fail
       go_loopw [12] (fun _ wr=>∃ (k:Nat) (Gk:RLay),k≤K∧RMem wr b g p (rw0.run g.n k) Gk∧(rw0.run g.n k).hd.length=rw0.hd.length+k∧Gk.fs=G2.fs∧Gk.ss=G2.ss∧(∀ j,Gk.foot b j→G2.foot b j∨w5.heap.size≤j)∧Alike w5 wr (fun j=>G2.foot b j)) (fun _ wr=>rw0.hd.length+K-a5l wr b)
       case atStart=>exact ⟨0,G2,Nat.zero_le _,HM5.out,rfl,rfl,rfl,fun j hj=>Or.inl hj,Alike.refl _ _⟩
       case round =>
        obtain ⟨k,Gk,hkK,hMk,hlen,hfk,hsk,hftk,hak⟩:=hrel
        have HMk:Hid (RMem wr b g p (rw0.run g.n k) Gk):=hMk
        have HLen:Hid ((rw0.run g.n k).hd.length=rw0.hd.length+k):=hlen
        have HFk:Hid (Gk.fs=G2.fs):=hfk
        have HSk:Hid (Gk.ss=G2.ss):=hsk
        have HFtk:Hid (∀ j,Gk.foot b j→G2.foot b j∨w5.heap.size≤j):=hftk
        have HAk:Hid (Alike w5 wr (fun j=>G2.foot b j)):=hak
        have HNx:Hid _:=b1h b g p (rw0.run g.n k) Gk (HWk.out k) hn.2 (by omega) (by rw [hfk];omega) wr hMk.nd
        rw [hMk.nd.wsl] at HNx
        clear hMk hlen hfk hsk hftk hak
        go_wp2_with fail
        refine (show Calls _ _ _ _ _ from HNx.out).mono ?_
        rintro e w6 ⟨rfl,hb6⟩
        have HB6:Hid (Below wr.heap.size wr w6):=hb6
        have HM6:Hid (RMem w6 b g p (rw0.run g.n k) Gk):=HMk.out.low hb6
        have HA6:Hid (Alike w5 w6 (fun j=>G2.foot b j)):=HAk.out.trans (Alike.of_below hb6 (fun _=>False)) (fun _ _ h=>h.elim)
        clear hb6
        cases hbest:(rw0.run g.n k).best g.n (rw0.run g.n k).ws.length with
        | none =>
         have HBn:Hid _:=av9 g.n k rw0 hbest (K-k)
         clear hbest
         unfold bestI
         simp only
         go_wp2_with fail
         go_ret2
         rw [HR.out]
         have hkk:k+(K-k)=K:=by omega
         have h9:=HBn.out
         rw [hkk] at h9
         have zU:=HBU.out.size
         have zY:=HAl.out.size
         have z5:=HB5.out.size
         have zG:=HGa.out
         have hfo:∀ j,G2.foot b j→F j∨w.heap.size≤j:=fun j hj=>by
          rcases HFt2.out j hj with h | h | h
          ·exact Or.inl (HFt.out j h)
          ·obtain ⟨off,h⟩:=h
           cases h
           exact Or.inr zG
          ·exact Or.inr (by omega)
         refine ⟨_,rfl,⟨fun j=>Gk.foot b j,⟨_,Gk,HM6.out,by rw [←h9];exact HGt.out,?_,?_,fun _ h=>h⟩,fun j hj=>?_⟩,?_,?_⟩
         ·rw [HFk.out,HFs2.out,List.length_append]
          simp
          omega
         ·rw [HSk.out,HSs2.out]
          omega
         ·rcases HFtk.out j hj with h | h
          ·exact hfo j h
          ·exact Or.inr (by omega)
         ·have a1:Alike w Y F:=(Alike.of_below HBU.out F).trans HAl.out (fun _ _ h=>h)
          have a2:Alike w w5 F:=a1.trans (Alike.of_below HB5.out F) (fun _ _ h=>h)
          exact a2.trans HA6.out (fun j hj h=>(hfo j h).elim (fun h=>h) (fun h=>by omega))
         ·have h7:Pks w6 Y.heap.size (.slice pa pks.length pc) pks:=HPs.out.alike HA6.out (fun j h1 _ h2=>by have:=HF2z.out j h2;omega)
          exact ⟨a3g h7.own (by omega)⟩
        | some i =>
         have HRs:Hid _:=aw8 g.n k rw0 hbest HLen.out
         have HIl:Hid (i<Gk.fs.length):=by
          have:=b7l hbest
          rw [HM6.out.nd.wsl]
          exact this
         have HkK:Hid (k<K):=by
          rcases Nat.lt_or_ge k K with h | h
          ·exact h
          ·have:k=K:=by omega
           subst this
           rw [HDn.out] at hbest
           cases hbest
         clear hbest
         unfold bestI
         simp only
         have hii:¬ (i:Int)<0:=by omega
         have c6:=HM6.out.nd.c6
         have fz:=a0h HM6.out.nd.ty 6
         have hbX:b<w6.heap.size:=lt_of_cell c6
         have hnb:some b≠(Value.slice Gk.ha (rw0.run g.n k).hd.length Gk.hcap).ownBlock:=fun he=>by
          obtain ⟨cur,e⟩:=HM6.out.nd.ty
          obtain ⟨_,e'⟩:=a02 HM6.out.nd.ho (a1d HM6.out.nd.ho he.symm)
          exact ty_ne e e' (by decide) rfl
         have hlb:(rw0.run g.n k).hd.length≤525000:=by rw [HLen.out];omega
         go_wp2_with (at_builtin;refine wpList_append_lies _ rfl (.tmp 112) (.tmp 114) 34 rfl 0 3 i0 _ 1 8 Tryz.underlying34 hi hz0 hz1 hz2 rfl (by decide) (.slice Gk.ha (rw0.run g.n k).hd.length Gk.hcap) (rw0.run g.n k).hd.length (hrow (rw0.run g.n k).hd) rfl (HM6.out.low (a00 _ _)).nd.ho ⟨w6.heap.size,0,none⟩ 1 1 [.int .i64 (i:Int)] rfl rfl (World.news_of_block (heap_alloc_new w6 _)) ?c2 (by decide) (by unfold maxLen;omega) (by omega) (Nat.zero_le _) _ rfl ?_)
         case c2=>rfl
         intro g' cap' v1 hown hgrow hat hlt2
         have c11:v1.cell? ⟨b,6,none⟩=some (.slice Gk.ha (rw0.run g.n k).hd.length Gk.hcap):=(hgrow.cell_far ⟨b,6,none⟩ (by simp;omega) hnb).trans ((Below.cell (B:=w6.heap.size) (w:=w6) (a00 _ _) (p:=⟨b,6,none⟩) hbX).trans c6)
         have f11:v1.frozen? ⟨b,6,none⟩=false:=(hgrow.frozen_far ⟨b,6,none⟩ (by simp;omega) hnb).trans ((Below.frozen (B:=w6.heap.size) (w:=w6) (a00 _ _) (p:=⟨b,6,none⟩) hbX).trans fz)
         have HG2:Hid (Grew w6 (v1.setCell ⟨b,6,none⟩ (.slice (some ⟨g',0,none⟩) ((rw0.run g.n k).hd.length+1) cap')) b 6 3 1 Gk.ha ((rw0.run g.n k).hd.length+1) (hrow ((rw0.run g.n k).hd++[i]))):=by
          show Grew _ _ _ _ _ _ _ _ _
          rw [a5k]
          exact a9h (i:=6) (u:=.slice Gk.ha (rw0.run g.n k).hd.length Gk.hcap) HM6.out.nd.ty (by decide) HM6.out.nd.ho (a00 _ _) hgrow hat (by simp) hown c11
         clear hown hgrow hat hlt2 c6 fz hnb
         go_wp2_with fail
         generalize v1.setCell ⟨b,6,none⟩ (.slice (some ⟨g',0,none⟩) ((rw0.run g.n k).hd.length+1) cap')=Q at *
         obtain ⟨G3,hM3,hf3,hs3,hft3⟩:=HM6.out.hears HG2.out HIl.out
         rw [←HRs.out] at hM3
         have HM3':Hid (RMem Q b g p (rw0.run g.n (k+1)) G3):=hM3
         have HL3:Hid ((rw0.run g.n (k+1)).hd.length=rw0.hd.length+(k+1)):=by
          show _=_
          rw [HRs.out]
          show ((rw0.run g.n k).hd++[i]).length=_
          rw [List.length_append,HLen.out]
          rfl
         have HA7:Hid (Alike w5 Q (fun j=>G2.foot b j)):=HA6.out.trans HG2.out.rest (fun j hj hor=>by
          have h1:Gk.foot b j:=hor.elim Or.inl (fun h=>Or.inr (Or.inr (Or.inl h)))
          rcases HFtk.out j h1 with h | h
          ·exact h
          ·omega)
         have HF3:Hid (∀ j,G3.foot b j→G2.foot b j∨w5.heap.size≤j):=fun j hj=>by
          have z6:=HA6.out.size
          rcases hft3 j hj with h | h
          ·exact HFtk.out j h
          ·exact Or.inr (by omega)
         have HFs3:Hid (G3.fs=G2.fs∧G3.ss=G2.ss):=⟨hf3.trans HFk.out,hs3.trans HSk.out⟩
         have HM7:Hid (a5l Q b=rw0.hd.length+(k+1)):=by
          show a5l Q b=_
          unfold a5l
          rw [HM3'.out.nd.c6]
          exact HL3.out
         have HM8:Hid (a5l wr b=rw0.hd.length+k):=by
          show a5l wr b=_
          unfold a5l
          rw [HMk.out.nd.c6]
          exact HLen.out
         clear hM3 hf3 hs3 hft3 c11 f11
         go_roundw
         case rel=>exact ⟨k+1,G3,HkK.out,HM3'.out,HL3.out,HFs3.out.1,HFs3.out.2,HF3.out,HA7.out⟩
         case measure =>
          have h1:=HM7.out
          have h2:=HM8.out
          have h3:=HkK.out
          omega
theorem ag6 (b:Nat) (g:Gr) (p:Nat) (s:NS) (m:Nat) (F:Nat→Prop) (t:ByteArray) (hg:g.Ok) (hp:p<g.n) (ht:t.size≤maxLen) (hm:m≤100000000) (w:World) (h:RefAt w b g p s m F) :
  Calls Tryz.prog 171 #[.pointer (some ⟨b,0,none⟩),.string t] w fun e w'=>∃ v,e=.returned (.tuple #[v,.int .i64 ((s.hear g p t).k:Int)])∧RDid w w' b g p F (s.hear g p t).s (m+1) v (s.hear g p t).ps:=by
 cases hx:rAll g.n g.W g.B g.L t with
 | some x=>exact b3j b g p s m F t hg ht hx w h
 | none =>
  rcases ap2 hx with h2 | h2
  ·exact ao1 b g p s m F t hg hp ht hx h2 hm w h
  ·exact b0g b g p s m F t hg hp ht hx h2 hm w h
section
variable (b:Nat) (g:Gr) (p:Nat) (s:NS) (m:Nat) (F:Nat→Prop)
theorem b2l (hg:g.Ok) (hp:p<g.n) (hm:m≤100000000) (w:World) (h:RefAt w b g p s m F) :
  Calls Tryz.prog 111 #[.pointer (some ⟨b,0,none⟩)] w fun e w'=>(∃ v,e=.returned v∧Pks w' w.heap.size v (s.tick g p))∧Below w.heap.size w w':=by
 obtain ⟨r,G,hM,hS,hf1,hs1,hft⟩:=h.how
 have:=hS.short hg hp
 exact b1c b g p s r G hg hp hS hM.kd (by omega) (by omega) (by omega) w hM.nd
theorem au1 (hg:g.Ok) (hp:p<g.n) (w:World) (h:RefAt w b g p s m F) :
  Calls Tryz.prog 112 #[.pointer (some ⟨b,0,none⟩)] w fun e w'=>(∃ v,e=.returned v∧Wrd w' w.heap.size v s.hs)∧Below w.heap.size w w':=by
 obtain ⟨r,G,hM,hS,hf1,hs1,hft⟩:=h.how
 have:=hS.short hg hp
 rw [hS.mid.hs]
 exact ax7 b g p r G (by omega) w hM.nd
theorem b4t (hg:g.Ok) (hp:p<g.n) (w:World) (h:RefAt w b g p s m F) :
  Calls Tryz.prog 116 #[.pointer (some ⟨b,0,none⟩)] w fun e w'=>(∃ v,e=.returned v∧w'.ownsRow w.heap.size 3 1 v g.n (irow (s.vs.getD p [])))∧Below w.heap.size w w':=by
 obtain ⟨r,G,hM,hS,hf1,hs1,hft⟩:=h.how
 have:=hS.short hg hp
 rw [hS.clock hp]
 exact a6q b g p r G hg.n.2 (by omega) w hM.nd
theorem b2s (r:RN) (l:List Nat):r.listed l=(r.at l).map Fm.word:=by
 unfold RN.listed RN.at
 rw [List.map_filterMap]
theorem ax3 (hg:g.Ok) (hp:p<g.n) (hm:m≤100000000) (w:World) (h:RefAt w b g p s m F) :
  Calls Tryz.prog 115 #[.pointer (some ⟨b,0,none⟩)] w fun e w'=>(∃ v,e=.returned v∧Wrd w' w.heap.size v s.kept)∧Below w.heap.size w w':=by
 obtain ⟨r,G,hM,hS,hf1,hs1,hft⟩:=h.how
 have h1:=hS.short hg hp
 have h2:s.kept=r.listed (r.kept g p):=by
  rw [b2s,hS.kept hp]
  rfl
 have h3:(r.kept g p).length≤64:=by
  have h4:=a4k (fs:=G.fs) (ks:=r.kept g p) (fun i hi=>by rw [hM.nd.wsl];exact a6p hi)
  rw [←h4.1,←List.length_map (f:=Fr.fm),a97 G.fs r hM.nd.ws,hS.kept hp]
  exact hS.ok.short hg
 rw [h2]
 exact ay6 b g p r G hg (by omega) (by omega) (by omega) (by omega) w hM.nd
theorem b2c {r:RN} (hS:Sim g p s r) (q:Int):r.view g p q=s.view g q:=by
 unfold RN.view NS.view
 by_cases hq:a08 g.n q=true
 ·rw [if_pos hq,if_pos hq]
  have h1:=of_decide_eq_true hq
  have hqn:q.toNat<g.n:=by omega
  have hl:(s.vs.getD q.toNat []).length=g.n:=hS.ok.clk.shp.elen _ hqn
  refine List.ext_getElem (by rw [hl,a6x]) fun i h2 h3=>?_
  rw [a6x] at h2
  have e:=hS.mid.knows hqn h2
  unfold vw at e
  rw [List.getD_eq_getElem?_getD,List.getElem?_eq_getElem h3] at e
  simp only [RN.a3a,List.getElem_map,List.getElem_range]
  exact e
 ·rw [if_neg hq,if_neg hq]
theorem b6r (q:Int) (hg:g.Ok) (hp:p<g.n) (hm:m≤100000000) (w:World) (h:RefAt w b g p s m F) :
  Calls Tryz.prog 120 #[.pointer (some ⟨b,0,none⟩),.int .i64 q] w fun e w'=>(∃ v,e=.returned (.tuple #[v,.int .i64 (viewK g.n q:Int)])∧w'.ownsRow w.heap.size 3 1 v (s.view g q).length (irow (s.view g q)))∧Below w.heap.size w w':=by
 obtain ⟨r,G,hM,hS,hf1,hs1,hft⟩:=h.how
 have h1:=hS.short hg hp
 rw [←b2c g p s hS q]
 exact b3p b g p r G q hg.n.2 (by omega) (by omega) (by omega) w hM.nd
end
theorem Sim.new {g:Gr} (hg:g.Ok) {p:Nat} (hp:p<g.n):Sim g p (NS.new g) ⟨[],[],[]⟩:=by
 have h:=NS.b27 hg p
 refine ⟨h,⟨h.clk,List.Pairwise.nil,fun f hf=>(by cases hf),fun f hf=>(by cases hf),fun f hf=>(by cases hf),h.sorted,fun f=>⟨fun hf=>(by cases hf),fun hf=>(by cases hf.1)⟩,fun o ho=>h.clk.aj5 p o hp,rfl,fun i hi=>(by cases hi),fun q o hq ho hqp=>?_⟩⟩
 rw [NS.b1j]
 unfold RN.knows
 rw [if_neg hqp]
 rfl
theorem ax8 {w:World} {b:Nat} {g:Gr} {p:Nat} (h:w.heap[b]?=some (.cells #[.int .i64 (g.n:Int),.int .i64 g.W,.int .i64 g.B,.int .i64 g.L,.int .i64 (p:Int),.slice none 0 0,.slice none 0 0,.slice none 0 0] 228 (0,0))):RMem w b g p ⟨[],[],[]⟩ ⟨none,0,[],none,0,none,0,[]⟩:=by
 have e:∀ i,w.cell? ⟨b,i,none⟩=#[Value.int .i64 (g.n:Int),.int .i64 g.W,.int .i64 g.B,.int .i64 g.L,.int .i64 (p:Int),.slice none 0 0,.slice none 0 0,.slice none 0 0][i]?:=fun i=>cell_of_row w b i _ _ (0,0) h
 have n:∀ (t:TypeId) (c:Nat),w.ownsRow 0 t c (.slice none 0 0) 0 []:=fun t c=>World.ownsRow_nil _ _ _ _
 exact ⟨⟨e 0,e 1,e 2,e 3,e 4,e 5,e 6,e 7,⟨_,h⟩,⟨rfl,n _ _⟩,n _ _,⟨rfl,n _ _⟩,rfl,rfl,fun f hf=>(by cases hf),fun f hf=>(by cases hf),fun f hf=>(by cases hf),fun f hf=>(by cases hf),fun i hi=>(by cases hi)⟩,fun f hf=>(by cases hf),fun f hf=>(by cases hf),fun f hf=>(by cases hf),fun k hk=>(by obtain ⟨off,e⟩:=hk;cases e)⟩
theorem b2u (N W B L p:Int) (w:World) :
  Calls Tryz.prog 106 #[.agg #[.int .i64 N,.int .i64 W,.int .i64 B,.int .i64 L],.int .i64 p] w fun e w'=>(∃ v,e=.returned (.tuple #[v,.int .i64 (a0d N W B L p:Int)])∧(a0d N W B L p≠0→v=.pointer none) ∧
   (a0d N W B L p=0→∃ b F,v=.pointer (some ⟨b,0,none⟩)∧RefAt w' b ⟨N.toNat,W,B,L⟩ p.toNat (NS.new ⟨N.toNat,W,B,L⟩) 0 F∧∀ k,F k→w.heap.size≤k))∧Below w.heap.size w w':=by
 have HB0:Hid (Below w.heap.size w (w.alloc (.cells #[.int .i64 N,.int .i64 W,.int .i64 B,.int .i64 L] 26))):=a00 w _
 have HZ:Hid (w.heap.size<(w.alloc (.cells #[.int .i64 N,.int .i64 W,.int .i64 B,.int .i64 L] 26)).heap.size):=by show _<_;simp
 have e0:∀ i,(w.alloc (.cells #[.int .i64 N,.int .i64 W,.int .i64 B,.int .i64 L] 26)).cell? ⟨w.heap.size,i,none⟩=#[Value.int .i64 N,.int .i64 W,.int .i64 B,.int .i64 L][i]?:=fun i=>cell_of_row _ _ i _ _ (0,0) (heap_alloc_new _ _)
 have HE0:Hid _:=e0
 have HK:Hid (a0d N W B L p=if okG N W B L && decide (0≤p∧p<N) then 0 else 1):=rfl
 clear e0
 go_enter Tryz.func106,Tryz.ntmps106
 go_wp2_with fail
 generalize w.alloc (.cells #[.int .i64 N,.int .i64 W,.int .i64 B,.int .i64 L] 26)=X at *
 refine (a14 N W B L X).mono ?_
 rintro e w1 ⟨rfl,hb1⟩
 have HB1:Hid (Below w.heap.size w w1):=bthen HB0.out hb1
 have HC1:Hid (w1.cell? ⟨w.heap.size,0,none⟩=some (.int .i64 N)∧w1.cell? ⟨w.heap.size,1,none⟩=some (.int .i64 W)∧w1.cell? ⟨w.heap.size,2,none⟩=some (.int .i64 B)∧w1.cell? ⟨w.heap.size,3,none⟩=some (.int .i64 L)):=⟨(hb1.cell (p:=⟨w.heap.size,0,none⟩) HZ.out).trans (HE0.out 0),(hb1.cell (p:=⟨w.heap.size,1,none⟩) HZ.out).trans (HE0.out 1),(hb1.cell (p:=⟨w.heap.size,2,none⟩) HZ.out).trans (HE0.out 2),(hb1.cell (p:=⟨w.heap.size,3,none⟩) HZ.out).trans (HE0.out 3)⟩
 have HZ1:Hid (w.heap.size<w1.heap.size):=Nat.lt_of_lt_of_le HZ.out hb1.size
 clear hb1
 by_cases hok:okG N W B L=true
 ·rw [if_pos hok]
  obtain ⟨k0,k1,k2,k3⟩:=HC1.out
  go_wp2_with fail
  refine (a2b N W B L p w1).mono ?_
  rintro e w2 ⟨rfl,hb2⟩
  have HB2:Hid (Below w.heap.size w w2):=bthen HB1.out hb2
  have HC2:Hid (w2.cell? ⟨w.heap.size,0,none⟩=some (.int .i64 N)∧w2.cell? ⟨w.heap.size,1,none⟩=some (.int .i64 W)∧w2.cell? ⟨w.heap.size,2,none⟩=some (.int .i64 B)∧w2.cell? ⟨w.heap.size,3,none⟩=some (.int .i64 L)):=⟨(hb2.cell (p:=⟨w.heap.size,0,none⟩) HZ1.out).trans k0,(hb2.cell (p:=⟨w.heap.size,1,none⟩) HZ1.out).trans k1,(hb2.cell (p:=⟨w.heap.size,2,none⟩) HZ1.out).trans k2,(hb2.cell (p:=⟨w.heap.size,3,none⟩) HZ1.out).trans k3⟩
  clear hb2 k0 k1 k2 k3
  by_cases hd:0≤p∧p<N
  ·rw [decide_eq_true hd]
   have HK0:Hid (a0d N W B L p=0):=by show _=_;rw [HK.out,hok,decide_eq_true hd];rfl
   obtain ⟨k0,k1,k2,k3⟩:=HC2.out
   have HOkG:Hid (okG N W B L=true):=hok
   have HD:Hid (0≤p∧p<N):=hd
   clear hok hd
   go_wp2_with fail
   go_ret2
   have hN:=a0u.1 HOkG.out
   have hd:=HD.out
   have hsz:=HB2.out.size
   refine ⟨⟨_,by rw [HK0.out];rfl,fun h=>absurd HK0.out h,fun _=>⟨w2.heap.size,fun k=>k=w2.heap.size,rfl,⟨⟨[],[],[]⟩,⟨none,0,[],none,0,none,0,[]⟩,?_,?_,Nat.le_refl _,Nat.le_refl _,fun k hk=>?_⟩,fun k hk=>by omega⟩⟩,bthen HB2.out (a00 _ _)⟩
   ·refine ax8 ?_
    have h1:=heap_alloc_new w2 (.cells #[.int .i64 N,.int .i64 W,.int .i64 B,.int .i64 L,.int .i64 p,.slice none 0 0,.slice none 0 0,.slice none 0 0] 228)
    simp only
    rw [show ((N.toNat:Nat):Int)=N by omega,show ((p.toNat:Nat):Int)=p by omega]
    exact h1
   ·exact Sim.new ⟨⟨by show 2≤N.toNat;omega,by show N.toNat≤8;omega⟩,⟨hN.2.2.1,hN.2.2.2.1⟩,⟨hN.2.2.2.2.1,hN.2.2.2.2.2.1⟩,⟨hN.2.2.2.2.2.2.1,hN.2.2.2.2.2.2.2⟩⟩ (by show p.toNat<N.toNat;omega)
   ·rcases hk with h | h | h | h | ⟨f,hf,_⟩ | ⟨f,hf,_⟩
    ·exact h
    ·obtain ⟨off,e⟩:=h;cases e
    ·obtain ⟨off,e⟩:=h;cases e
    ·obtain ⟨off,e⟩:=h;cases e
    ·cases hf
    ·cases hf
  ·rw [decide_eq_false hd]
   have HK0:Hid (a0d N W B L p=1):=by show _=_;rw [HK.out,hok,decide_eq_false hd];rfl
   clear hd
   go_wp2_with fail
   go_ret2
   exact ⟨⟨_,by rw [HK0.out];rfl,fun _=>rfl,fun h=>by rw [HK0.out] at h;cases h⟩,HB2.out⟩
 ·rw [if_neg hok]
  have hof:okG N W B L=false:=by simpa using hok
  have HK0:Hid (a0d N W B L p=1):=by show _=_;rw [HK.out,hof];rfl
  clear hok hof
  go_wp2_with fail
  go_ret2
  exact ⟨⟨_,by rw [HK0.out];rfl,fun _=>rfl,fun h=>by rw [HK0.out] at h;cases h⟩,HB1.out⟩
theorem b6j (A:Nat→Addr) (base fb b:Nat) (g:Gr) (p:Nat) (s:NS) (F:Nat→Prop) (body:ByteArray) (hg:g.Ok) (hp:p<g.n) (hs:s.Ok g p) (w:World) (hc:w.cell? ⟨fb,0,none⟩=some (.pointer (some ⟨b,0,none⟩))) (hw:Sl w A base) (hF:∀ k,F k→base≤k) (h:a0m w b g p s F) :
  Calls Tryz.prog 54 #[.pointer (some ⟨fb,0,none⟩),.string body] w fun e w'=>∃ v,e=.returned (.tuple #[.int .i64 (s.say g p body).q,v,.int .i64 ((s.say g p body).k:Int)])∧Did w w' b g p F (s.say g p body).s v (s.say g p body).ps:=by
 have HC:Hid _:=b44 A base b g p s F body hg hp hs w hw hF h
 have HSl:Hid (∀ w1 v,Did w w1 b g p F (s.say g p body).s v (s.say g p body).ps→Sl w1 A base):=fun w1 v hd=>hd.sl hw hF
 clear hw hF h hs
 generalize s.say g p body=R at *
 go_enter Tryz.func54,Tryz.ntmps54
 go_wp2_with fail
 refine (show Calls _ _ _ _ _ from HC.out).mono ?_
 rintro e w1 ⟨v,er,rfl,he,hd⟩
 obtain ⟨av,cv,hsh⟩:=a01 hd.pks.own
 subst hsh
 have HD:Hid _:=hd
 have HE:Hid _:=he
 have HS1:Hid _:=HSl.out w1 _ hd
 clear hd he
 go_wp2_with fail
 refine (a0c A er R.k HE.out w1 HS1.out.s).mono ?_
 rintro e w2 ⟨rfl,hb2⟩
 have HD2:Hid _:=HD.out.low hb2
 clear hb2
 go_wp2_with fail
 go_ret3
 exact ⟨_,rfl,HD2.out⟩
theorem b5i (A:Nat→Addr) (base fb b:Nat) (g:Gr) (p:Nat) (s:NS) (F:Nat→Prop) (t:ByteArray) (hg:g.Ok) (hp:p<g.n) (hs:s.Ok g p) (ht:t.size≤maxLen) (w:World) (hc:w.cell? ⟨fb,0,none⟩=some (.pointer (some ⟨b,0,none⟩))) (hw:Sl w A base) (hF:∀ k,F k→base≤k) (h:a0m w b g p s F) :
  Calls Tryz.prog 59 #[.pointer (some ⟨fb,0,none⟩),.string t] w fun e w'=>∃ v,e=.returned (.tuple #[v,.int .i64 ((s.hear g p t).k:Int)])∧Did w w' b g p F (s.hear g p t).s v (s.hear g p t).ps:=by
 have HC:Hid _:=as5 A base b g p s F t hg hp hs ht w hw hF h
 have HSl:Hid (∀ w1 v,Did w w1 b g p F (s.hear g p t).s v (s.hear g p t).ps→Sl w1 A base):=fun w1 v hd=>hd.sl hw hF
 clear hw hF h hs
 generalize s.hear g p t=R at *
 go_enter Tryz.func59,Tryz.ntmps59
 go_wp2_with fail
 refine (show Calls _ _ _ _ _ from HC.out).mono ?_
 rintro e w1 ⟨v,er,rfl,he,hd⟩
 obtain ⟨av,cv,hsh⟩:=a01 hd.pks.own
 subst hsh
 have HD:Hid _:=hd
 have HE:Hid _:=he
 have HS1:Hid _:=HSl.out w1 _ hd
 clear hd he
 go_wp2_with fail
 refine (a0c A er R.k HE.out w1 HS1.out.s).mono ?_
 rintro e w2 ⟨rfl,hb2⟩
 have HD2:Hid _:=HD.out.low hb2
 clear hb2
 go_wp2_with fail
 go_ret2
 exact ⟨_,rfl,HD2.out⟩
section
variable (A:Nat→Addr) (base fb b:Nat) (g:Gr) (p:Nat) (s:NS) (F:Nat→Prop)
theorem b48 (hg:g.Ok) (hp:p<g.n) (hs:s.Ok g p) (w:World) (hc:w.cell? ⟨fb,0,none⟩=some (.pointer (some ⟨b,0,none⟩))) (hw:Sl w A base) (h:a0m w b g p s F) :
  Calls Tryz.prog 56 #[.pointer (some ⟨fb,0,none⟩)] w fun e w'=>(∃ v,e=.returned v∧Pks w' w.heap.size v (s.tick g p))∧Below w.heap.size w w':=by
 have HC:Hid _:=a7m A base b g p s F hg hp hs w hw h
 clear hw h hs
 generalize s.tick g p=R at *
 go_enter Tryz.func56,Tryz.ntmps56
 go_wp2_with fail
 refine (show Calls _ _ _ _ _ from HC.out).mono ?_
 rintro e w1 ⟨⟨v,rfl,hv⟩,hb1⟩
 obtain ⟨av,cv,hsh⟩:=a01 hv.own
 subst hsh
 have HV:Hid _:=hv
 have HB:Hid _:=hb1
 clear hv hb1
 go_wp2_with fail
 go_ret
 exact ⟨⟨_,rfl,HV.out⟩,HB.out⟩
theorem b1n (hg:g.Ok) (hp:p<g.n) (hs:s.Ok g p) (w:World) (hc:w.cell? ⟨fb,0,none⟩=some (.pointer (some ⟨b,0,none⟩))) (h:a0m w b g p s F) :
  Calls Tryz.prog 30 #[.pointer (some ⟨fb,0,none⟩)] w fun e w'=>(∃ v,e=.returned v∧Wrd w' w.heap.size v s.hs)∧Below w.heap.size w w':=by
 have HC:Hid _:=a6f b g p s F hg hp hs w h
 clear h hs
 go_enter Tryz.func30,Tryz.ntmps30
 go_wp2_with fail
 refine (show Calls _ _ _ _ _ from HC.out).mono ?_
 rintro e w1 ⟨⟨v,rfl,hv⟩,hb1⟩
 obtain ⟨av,cv,hsh⟩:=a01 hv
 subst hsh
 have HV:Hid _:=hv
 have HB:Hid _:=hb1
 clear hv hb1
 go_wp2_with fail
 go_ret
 exact ⟨⟨_,rfl,⟨HV.out⟩⟩,HB.out⟩
theorem b43 (hg:g.Ok) (hs:s.Ok g p) (w:World) (hc:w.cell? ⟨fb,0,none⟩=some (.pointer (some ⟨b,0,none⟩))) (h:a0m w b g p s F) :
  Calls Tryz.prog 32 #[.pointer (some ⟨fb,0,none⟩)] w fun e w'=>(∃ v,e=.returned v∧Wrd w' w.heap.size v s.kept)∧Below w.heap.size w w':=by
 have HC:Hid _:=a6g b g p s F hg hs w h
 clear h hs
 go_enter Tryz.func32,Tryz.ntmps32
 go_wp2_with fail
 refine (show Calls _ _ _ _ _ from HC.out).mono ?_
 rintro e w1 ⟨⟨v,rfl,hv⟩,hb1⟩
 obtain ⟨av,cv,hsh⟩:=a01 hv.own
 subst hsh
 have HV:Hid _:=hv
 have HB:Hid _:=hb1
 clear hv hb1
 go_wp2_with fail
 go_ret
 exact ⟨⟨_,rfl,HV.out⟩,HB.out⟩
theorem b2n (hg:g.Ok) (hp:p<g.n) (w:World) (hc:w.cell? ⟨fb,0,none⟩=some (.pointer (some ⟨b,0,none⟩))) (h:a0m w b g p s F) :
  Calls Tryz.prog 33 #[.pointer (some ⟨fb,0,none⟩)] w fun e w'=>(∃ v,e=.returned v∧w'.ownsRow w.heap.size 3 1 v g.n (irow (s.vs.getD p [])))∧Below w.heap.size w w':=by
 have HC:Hid _:=ac2 b g p s F hg hp w h
 clear h
 go_enter Tryz.func33,Tryz.ntmps33
 go_wp2_with fail
 refine (show Calls _ _ _ _ _ from HC.out).mono ?_
 rintro e w1 ⟨⟨v,rfl,hv⟩,hb1⟩
 obtain ⟨av,cv,hsh⟩:=a01 hv
 subst hsh
 have HV:Hid _:=hv
 have HB:Hid _:=hb1
 clear hv hb1
 go_wp2_with fail
 go_ret
 exact ⟨⟨_,rfl,HV.out⟩,HB.out⟩
end
theorem a95 {g:Gr} (hg:g.Ok) {p:Nat} (hp:p<g.n):a0d (g.n:Int) g.W g.B g.L (p:Int)=0:=by
 unfold a0d
 rw [if_pos (by rw [hg.okG,Bool.true_and];exact decide_eq_true ⟨by omega,by omega⟩)]
theorem b6t (A:Nat→Addr) (base:Nat) (g:Gr) (p:Nat) (hg:g.Ok) (hp:p<g.n) (w:World) (hw:Sl w A base) :
  Calls Tryz.prog 27 #[.agg #[.int .i64 (g.n:Int),.int .i64 g.W,.int .i64 g.B,.int .i64 g.L],.int .i64 (p:Int)] w fun e w'=>(∃ fb b F,e=.returned (.tuple #[.pointer (some ⟨fb,0,none⟩),.int .i64 0])∧w'.cell? ⟨fb,0,none⟩=some (.pointer (some ⟨b,0,none⟩))∧a0m w' b g p (NS.new g) F∧(∀ k,F k→w.heap.size≤k∧k≠fb)∧w.heap.size≤fb)∧Below w.heap.size w w':=by
 have HW:Hid _:=hw
 have HNw:Hid (∀ y,Below w.heap.size w y→Calls Tryz.prog 52 #[.agg #[.int .i64 (g.n:Int),.int .i64 g.W,.int .i64 g.B,.int .i64 g.L],.int .i64 (p:Int)] y fun e w'=>(∃ b F,e=.returned (.tuple #[.pointer (some ⟨b,0,none⟩),.nilIface])∧a0m w' b g p (NS.new g) F∧∀ k,F k→y.heap.size≤k)∧Below y.heap.size y w'):=fun y hy=>by
  refine (a5i A base g.n g.W g.B g.L p y (hw.low hy)).mono ?_
  rintro e w' ⟨⟨v,er,rfl,he,_,hyes⟩,hb⟩
  have h0:=a95 hg hp
  obtain ⟨b,F,rfl,hn,hF⟩:=hyes h0
  rw [h0] at he
  have her:er=.nilIface:=by
   rcases he.how with h | ⟨h,_⟩ | ⟨h,_⟩
   ·exact h.1
   ·omega
   ·omega
  subst her
  exact ⟨⟨b,F,rfl,by simpa using hn,hF⟩,hb⟩
 clear hw
 go_enter Tryz.func27,Tryz.ntmps27
 go_wp2_with fail
 have HX:Hid _:=a00 w (.cells #[.int .i64 (g.n:Int),.int .i64 g.W,.int .i64 g.B,.int .i64 g.L] 26)
 generalize w.alloc (.cells #[.int .i64 (g.n:Int),.int .i64 g.W,.int .i64 g.B,.int .i64 g.L] 26)=X at *
 refine (show Calls _ _ _ _ _ from HNw.out X HX.out).mono ?_
 rintro e w1 ⟨⟨b,F,rfl,hm,hF⟩,hb1⟩
 have HM:Hid _:=hm
 have HF:Hid _:=hF
 have HB1:Hid _:=bthen HX.out hb1
 clear hm hF hb1
 go_wp2_with fail
 go_ret2
 have hz:=HX.out.size
 have hz1:=HB1.out.size
 refine ⟨⟨w1.heap.size,b,F,rfl,?_,HM.out.low (a00 _ _),fun k hk=>⟨?_,fun hc=>?_⟩,hz1⟩,bthen HB1.out (a00 _ _)⟩
 ·rw [cell_of_row _ _ 0 _ _ (0,0) (heap_alloc_new _ _)]
  rfl
 ·have:=HF.out k hk
  omega
 ·have:=HM.out.lt hk
  omega
theorem b62 {ps:List Pk} {i:Nat} {t:Pk} (h:ps[i]?=some t):(prow ps)[i * 2]?=some (.int .i64 t.to)∧(prow ps)[i * 2+1]?=some (.string t.text):=by
 induction ps generalizing i with
 | nil=>simp at h
 | cons a l ih =>
  cases i with
  | zero =>
   simp at h
   subst h
   exact ⟨rfl,rfl⟩
  | succ i =>
   have h':l[i]?=some t:=by simpa using h
   obtain ⟨e1,e2⟩:=ih h'
   have hp:prow (a :: l)=[.int .i64 a.to,.string a.text]++prow l:=rfl
   rw [hp]
   constructor
   ·rw [List.getElem?_append_right (by simp;omega)]
    simpa [show (i+1) * 2-2=i * 2 by omega] using e1
   ·rw [List.getElem?_append_right (by simp;omega)]
    simpa [show (i+1) * 2+1-2=i * 2+1 by omega] using e2
theorem Pks.get {w:World} {base:Nat} {av:Option Addr} {len cap:Nat} {ps:List Pk} (h:Pks w base (.slice av len cap) ps) {i:Nat} {t:Pk} (hi:ps[i]?=some t):∃ g,av=some ⟨g,0,none⟩∧g<w.heap.size∧w.cell? ⟨g,i * 2,none⟩=some (.int .i64 t.to)∧w.cell? ⟨g,i * 2+1,none⟩=some (.string t.text):=by
 have hil:=(List.getElem?_eq_some_iff.1 hi).1
 obtain ⟨e1,e2⟩:=b62 hi
 rcases h.own.2 with ⟨he,h0⟩ | ⟨g,cap',cur,he,_,hh,hnc,_,hcs,htk⟩
 ·omega
 ·simp only [Value.slice.injEq] at he
  obtain ⟨rfl,_,_⟩:=he
  have e:∀ j u,(prow ps)[j]?=some u→w.cell? ⟨g,j,none⟩=some u:=fun j u hu=>by
   rw [cell_of_row w g j cur _ (0,0) hh,←Array.getElem?_toList]
   rw [←htk,List.getElem?_take] at hu
   split at hu
   ·exact hu
   ·cases hu
  exact ⟨g,rfl,lt_of_some hh,e _ _ e1,e _ _ e2⟩
end Go.Proofs.YtabecbjfamphbaaGreatDoor
