/- A part of the proof. -/
import Derived.Test.YtabecbjfamphbaaGreatDoorM19
namespace Go.Proofs.YtabecbjfamphbaaGreatDoor
open Go.RowKit Go.Stop Go.Extern
set_option maxRecDepth 100000
set_option maxHeartbeats 4000000 in
theorem as5 (A:Nat→Addr) (base b:Nat) (g:Gr) (p:Nat) (s:NS) (F:Nat→Prop) (t:ByteArray) (hg:g.Ok) (hp:p<g.n) (hs:s.Ok g p) (ht:t.size≤maxLen) (w:World) (hw:Sl w A base) (hF:∀ k,F k→base≤k) (h:a0m w b g p s F) :
  Calls Tryz.prog 96 #[.pointer (some ⟨b,0,none⟩),.string t] w fun e w'=>∃ v er,e=.returned (.tuple #[v,er])∧a0l A er (s.hear g p t).k∧Did w w' b g p F (s.hear g p t).s v (s.hear g p t).ps:=by
 obtain ⟨G,fs,hN,hst,hkf,hFt⟩:=h.how
 obtain ⟨c0,c1,c2,c3,c4,_,_⟩:=hN.nb
 have hn8:=hg.n.2
 have hsh:=hs.short hg
 have HN:Hid _:=hN
 have HW:Hid _:=hw
 have HS:Hid _:=hs
 have HFt:Hid _:=hFt
 have HF:Hid _:=hF
 have HST:Hid _:=hst
 have HKF:Hid _:=hkf
 have HH:Hid _:=h
 clear hN hw hs hFt hF hst hkf h
 go_enter Tryz.func96,Tryz.ntmps96
 go_wp2_with fail
 refine (a4x (A 1) (A 5) g.n g.W g.B g.L t w HW.out.sent hg.okG ht).mono ?_
 rintro e w1 ⟨⟨fv,v1,rfl,hfv,hv1,hbad,hgood⟩,hb1⟩
 have HB1:Hid _:=hb1
 have HH1:Hid _:=HH.out.low hb1
 have HN1:Hid _:=HN.out.low hb1
 have HW1:Hid _:=HW.out.low hb1
 clear c0 c1 c2 c3 c4
 have c4:=HN1.out.nb.c4
 cases hr:rAll g.n g.W g.B g.L t with
 | some x =>
  have HE:Hid (s.hear g p t=⟨5,[],s⟩):=by show s.hear g p t=_;unfold NS.hear;rw [hr]
  rw [hr] at hv1
  have HV1:Hid (a0l A v1 5):=b7p hv1
  obtain ⟨ty,y,rfl⟩:=hv1.a1b.2 x rfl
  obtain ⟨_,_,_,_,_,_,_,_,_,rfl⟩:=hfv
  clear hv1 hbad hgood hb1
  go_wp2_with fail
  go_ret2
  refine ⟨_,_,rfl,?_,?_⟩
  ·rw [HE.out];exact HV1.out
  ·rw [HE.out];exact Did.none HH.out (bthen HB1.out (a00 _ _))
 | none =>
  rw [hr] at hv1
  obtain rfl:=hv1.a1b.1 rfl
  clear hbad hv1
  obtain ⟨f,hfe,hvec,hnew,hcase⟩:∃ f:Fr,fv=Fr.agg g.n f∧VecAt w1 g.n f∧(∀ k,onB f.ad k→w.heap.size≤k)∧((byt t 2=2∧f.kind=2∧f.frm=byt t 4∧f.vec=vecOf t 5 g.n)∨(byt t 2=1∧f.kind=1∧f.frm=byt t 4∧f.fm=a1c g.n t)):=by
   rcases hgood hr with ⟨h2,⟨gt,hgt,rfl,hrow⟩⟩ | ⟨h2,⟨gt,hgt,rfl,hrow⟩⟩
   ·refine ⟨⟨2,byt t 4,0,0,0,some ⟨gt,0,none⟩,g.n,vecOf t 5 g.n,⟨#[]⟩⟩,rfl,⟨?_,gt,_,rfl,hrow⟩,fun k ⟨off,e⟩=>(by cases e;exact hgt),Or.inl ⟨h2,rfl,rfl,rfl⟩⟩
    have hl:(vecOf t 5 g.n).length=g.n:=a06 _ _ _
    exact ⟨hl,fun i hi=>⟨gt,0,rfl,hrow.lt,by rw [Nat.zero_add];exact hrow.cell (by omega)⟩⟩
   ·refine ⟨⟨1,byt t 4,byt t 5,val t 6 2,val t 8 2,some ⟨gt,0,none⟩,g.n,vecOf t 10 g.n,t.extract (11+2 * g.n) (t.size-4)⟩,rfl,⟨?_,gt,_,rfl,hrow⟩,fun k ⟨off,e⟩=>(by cases e;exact hgt),Or.inr ⟨h2,rfl,rfl,rfl⟩⟩
    have hl:(vecOf t 10 g.n).length=g.n:=a06 _ _ _
    exact ⟨hl,fun i hi=>⟨gt,0,rfl,hrow.lt,by rw [Nat.zero_add];exact hrow.cell (by omega)⟩⟩
  subst hfe
  have HVec:Hid _:=hvec
  have HNew:Hid _:=hnew
  have HCase:Hid _:=hcase
  have HR:Hid _:=hr
  clear hvec hnew hcase hr hgood hb1 hfv
  unfold Fr.agg
  go_wp2_with fail
  have hal:=a00 w1 (.cells #[.int .i64 f.kind,.int .i64 f.frm,.int .i64 f.org,.int .i64 f.seq,.int .i64 f.low,.slice f.ad g.n f.cap,.string f.body] 45)
  have HS7:Hid _:=a05 w1 (.int .i64 f.kind) (.int .i64 f.frm) (.int .i64 f.org) (.int .i64 f.seq) (.int .i64 f.low) (.slice f.ad g.n f.cap) (.string f.body) 45
  have HBX:Hid (Below w.heap.size w _):=bthen HB1.out hal
  have HVX:Hid _:=HVec.out.low hal
  clear hal
  generalize w1.alloc (.cells #[.int .i64 f.kind,.int .i64 f.frm,.int .i64 f.org,.int .i64 f.seq,.int .i64 f.low,.slice f.ad g.n f.cap,.string f.body] 45)=X at *
  have HNX:Hid _:=HN.out.low HBX.out
  have HHX:Hid _:=HH.out.low HBX.out
  have HWX:Hid _:=HW.out.low HBX.out
  refine (a96 A b g.n g.W g.B g.L p G.gv f X HWX.out.s HNX.out.nb).mono ?_
  rintro e w2 ⟨⟨v2,rfl,hv2⟩,hb2⟩
  have HV2:Hid _:=hv2
  have HB2:Hid (Below w.heap.size w w2):=bthen HBX.out hb2
  have HS72:Hid _:=HS7.out.below hb2 HS7.out.z
  have HVX2:Hid _:=HVX.out.low hb2
  clear hb2
  by_cases hk:selfK p f=0
  ·obtain rfl:v2=.nilIface:=by
    rcases hv2.how with ⟨h,_⟩ | ⟨h,_⟩ | ⟨h,_⟩
    ·exact h
    ·omega
    ·omega
   have hne:f.frm≠p∧¬ (f.kind=1∧f.org=p):=by
    unfold selfK at hk
    split at hk
    ·cases hk
    ·split at hk
     ·cases hk
     ·exact ⟨by assumption,by assumption⟩
   have HNE:Hid _:=hne
   clear hv2 hne hk
   have HN2:Hid _:=HN.out.low HB2.out
   have HH2:Hid _:=HH.out.low HB2.out
   have HW2:Hid _:=HW.out.low HB2.out
   clear c4
   obtain ⟨s0,s1,s2,s3,s4,s5,s6,sz⟩:=HS72.out
   rcases HCase.out with ⟨t2,fk,ff,fv⟩ | ⟨t2,fk,ff,ffm⟩
   ·have b1:(f.kind == (1:Int))=false:=by rw [fk];rfl
    obtain ⟨hvo,hfl⟩:=ae5 HR.out t2
    have HE:Hid (s.hear g p t=⟨0,[],s.told g (byt t 4) f.vec⟩):=by
     show s.hear g p t=_
     unfold NS.hear
     rw [HR.out]
     simp only
     rw [if_neg (fun h=>HNE.out.1 (by rw [ff,h])),if_neg (by omega),fv]
    have HVO:Hid _:=hvo
    have HFV:Hid _:=fv
    have HFL:Hid _:=hfl
    have HFF:Hid _:=ff
    have hqp:byt t 4≠p:=fun h=>HNE.out.1 (by rw [ff,h])
    have HOF:Hid (∀ k,onB f.ad k→¬ F k):=fun k hk hc=>by
     have:=HNew.out k hk
     have:=HN.out.a1k ((HFt.out k).1 hc)
     omega
    have HLV:Hid (Calls Tryz.prog 156 #[.pointer (some ⟨b,0,none⟩),.int .i64 f.frm,.slice f.ad g.n f.cap] w2
     fun e w'=>e=.returned (.tuple #[])∧NVw w' G.gv g.n G.rows (a1n s.vs (byt t 4) f.vec g.n)∧Alike w2 w' (fun k=>k=G.rows.getD (byt t 4) 0)):=by
     rw [ff]
     exact a8i b g.n g.W g.B g.L p G.gv G.rows s.vs (byt t 4) f.ad f.cap f.vec w2 HN2.out.nb HN2.out.nv hfl HVX2.out.ints hn8 (fun c off hc he=>HOF.out c ⟨off,hc⟩ ((HFt.out c).2 (a1z (by rw [he];exact a2u HN.out.nv hfl))))
    clear fk ff fv hvo
    go_wp2_with fail
    refine HLV.out.mono ?_
    rintro e w3 ⟨rfl,hv3,ha3⟩
    have HT2:Hid _:=NAt.begin (F:=F) HN2.out (fun k hk=>(HFt.out k).2 hk)
    have HT3:Hid _:=HT2.out.aw7 hv3 ((Alike.refl w2 _).trans ha3 (fun k _ e=>by rw [e];exact a2u HN.out.nv hfl))
    clear hv3 ha3 s0 s1 s2 s3 s4 s5 s6 sz HLV
    go_wp2_with fail
    refine (a7c b g.n g.W g.B g.L p G.gv G.rows (a1n s.vs (byt t 4) f.vec g.n) G.sa fs.length G.scap fs w3 HT3.out.nod.nb HT3.out.nod.nv hn8 HT3.out.nod.c6 HT3.out.nod.fr (by have h1:=congrArg List.length HST.out;rw [List.length_map] at h1;omega) (fun a ha=>(HS.out.st a.fm (by rw [←HST.out];exact List.mem_map_of_mem ha)).org)).mono ?_
    rintro e w4 ⟨rfl,hk4⟩
    obtain ⟨G4,hN4⟩:=HT3.out.kept hk4 (fun a ha=>Or.inl (List.mem_filter.1 ha).1)
    have HT4:Hid _:=hN4
    clear hN4 hk4
    go_wp2_with fail
    go_ret2
    refine ⟨_,_,rfl,?_,?_⟩
    ·rw [HE.out];exact ⟨Or.inl ⟨rfl,rfl⟩⟩
    ·rw [HE.out]
     refine ⟨⟨G4.foot b (keptF (gone (a1n s.vs (byt t 4) f.vec g.n) g.L g.n) fs),⟨G4,_,HT4.out.nod,?_,?_,fun _=>Iff.rfl⟩,fun k hk=>?_⟩,?_,Pks.nil _ _⟩
     ·rw [a8k,HST.out]
      rfl
     ·exact fun a ha=>HKF.out a (List.mem_filter.1 ha).1
     ·rcases HT4.out.own k hk with h | h
      ·exact Or.inl h
      ·have:=HB2.out.size
       exact Or.inr (by omega)
     ·exact (Alike.of_below HB2.out F).trans HT4.out.rest (fun k _ h=>h)
   ·have b1:(f.kind == (1:Int))=true:=by rw [fk];rfl
    obtain ⟨hfo,hfl⟩:=ac4 HR.out t2
    have hoe:f.org=byt t 5:=by
     have:f.fm.org=(a1c g.n t).org:=by rw [ffm]
     exact this
    have HE:Hid (s.hear g p t=if s.newK g p f.fm=0 then ⟨0,passL (textM g p f.fm) p f.org f.frm g.n,s.got g p f.fm⟩ else ⟨s.newK g p f.fm,[],s⟩):=by
     show s.hear g p t=_
     unfold NS.hear
     rw [HR.out]
     simp only
     rw [if_neg (fun h=>HNE.out.1 (by rw [ff,h])),if_pos t2,if_neg (fun h=>HNE.out.2 ⟨fk,by rw [hoe,h]⟩),ffm,hoe,ff]
    have HHD:Hid (Calls Tryz.prog 155 #[.pointer (some ⟨b,0,none⟩),.agg #[.int .i64 f.kind,.int .i64 f.frm,.int .i64 f.org,.int .i64 f.seq,.int .i64 f.low,.slice f.ad g.n f.cap,.string f.body]] w2 _):=ak0 A base b g p s F f hg hp HS.out w2 HW2.out HF.out HH2.out fk (by rw [ffm];exact hfo) HVX2.out (fun k hk=>by
     have h1:=HNew.out k hk
     have h2:=HN.out.a1k (a3i G b fs)
     have h3:=HF.out b ((HFt.out b).2 (a3i _ _ _))
     exact ⟨fun hc=>by
      have:=HN.out.a1k ((HFt.out k).1 hc)
      omega,by omega⟩)
    clear fk ff ffm hoe hfo
    go_wp2_with fail
    refine (show Calls _ _ _ _ _ from HHD.out).mono ?_
    rintro e w3 ⟨v3,er,rfl,her,hno,hyes⟩
    have HER:Hid _:=her
    have HNO:Hid _:=hno
    have HYES:Hid _:=hyes
    clear her hno hyes s0 s1 s2 s3 s4 s5 s6 sz
    go_wp2_with fail
    go_ret2
    refine ⟨_,_,rfl,?_,?_⟩
    ·rw [HE.out]
     have h1:=HER.out
     split
     ·rename_i h0
      rw [h0] at h1
      exact h1
     ·exact h1
    ·rw [HE.out]
     split
     ·rename_i h0
      obtain ⟨h1,h2,F',h3,h4⟩:=HYES.out h0
      have hz:=HB2.out.size
      refine ⟨⟨F',h3,fun k hk=>?_⟩,(Alike.of_below HB2.out F).trans h2 (fun k hk hE=>?_),h1.mono hz⟩
      ·rcases h4 k hk with h | h | h
       ·exact Or.inl h
       ·exact Or.inr (HNew.out k h)
       ·exact Or.inr (by omega)
      ·rcases hE with h | h
       ·exact h
       ·have:=HNew.out k h
        omega
     ·rename_i h0
      obtain ⟨h1,h2⟩:=HNO.out h0
      rw [h1]
      exact Did.none HH.out (bthen HB2.out h2)
  ·have hk6:selfK p f=6:=by
    unfold selfK at hk ⊢
    split
    ·rfl
    ·rename_i h1
     rw [if_neg h1] at hk
     split
     ·rfl
     ·rename_i h2
      rw [if_neg h2] at hk
      exact absurd rfl hk
   have HE:Hid (s.hear g p t=⟨6,[],s⟩):=by
    show s.hear g p t=_
    unfold NS.hear
    rw [HR.out]
    simp only
    unfold selfK at hk
    by_cases h4:byt t 4=p
    ·rw [if_pos h4]
    ·rw [if_neg h4]
     rcases HCase.out with ⟨t2,fk,ff,fv⟩ | ⟨t2,fk,ff,ffm⟩
     ·rw [if_neg (fun h=>h4 (by omega)),if_neg (fun h=>by omega)] at hk
      exact absurd rfl hk
     ·have hoe:f.org=byt t 5:=by
       have:f.fm.org=(a1c g.n t).org:=by rw [ffm]
       exact this
      by_cases h5:byt t 5=p
      ·rw [if_pos t2,if_pos h5]
      ·rw [if_neg (fun h=>h4 (by omega)),if_neg (fun h=>by omega)] at hk
       exact absurd rfl hk
   obtain ⟨ty,y,rfl⟩:∃ t x,v2=.iface t x:=by
    rcases hv2.how with ⟨_,h⟩ | ⟨_,_,_,h⟩ | ⟨_,_,_,_,h⟩
    ·exact absurd h hk
    ·exact ⟨_,_,h⟩
    ·exact ⟨_,_,h⟩
   rw [hk6] at HV2
   clear hv2 hk hk6
   go_wp2_with fail
   go_ret2
   refine ⟨_,_,rfl,?_,?_⟩
   ·rw [HE.out];exact HV2.out
   ·rw [HE.out];exact Did.none HH.out HB2.out
def viewK (n:Nat) (q:Int):Nat:=if decide (0≤q∧q<n) then 0 else 1
def a08 (n:Nat) (q:Int):Bool:=decide (0≤q∧q<n)
theorem a3g {w:World} {b b':Nat} {t:TypeId} {c:Nat} {v:Value} {n:Nat} {xs:List Value} (h:w.ownsRow b t c v n xs) (hb:b'≤b):w.ownsRow b' t c v n xs:=by
 refine ⟨h.1,?_⟩
 rcases h.2 with h2 | ⟨g,cap,cur,hv,hg,r⟩
 ·exact Or.inl h2
 ·exact Or.inr ⟨g,cap,cur,hv,Nat.le_trans hb hg,r⟩
def NS.view (g:Gr) (s:NS) (q:Int):List Int:=if a08 g.n q then s.vs.getD q.toNat [] else []
set_option maxHeartbeats 1000000 in
theorem aj4 (A:Nat→Addr) (base b:Nat) (g:Gr) (p:Nat) (s:NS) (F:Nat→Prop) (q:Int) (hg:g.Ok) (hs:s.Ok g p) (w:World) (hw:Sl w A base) (h:a0m w b g p s F) :
  Calls Tryz.prog 176 #[.pointer (some ⟨b,0,none⟩),.int .i64 q] w fun e w'=>(∃ v er,e=.returned (.tuple #[v,er])∧a0l A er (viewK g.n q)∧w'.ownsRow w.heap.size 3 1 v (s.view g q).length (irow (s.view g q)))∧Below w.heap.size w w':=by
 obtain ⟨G,fs,hN,hst,hkf,hFt⟩:=h.how
 have hn:=hg.n
 obtain ⟨c0,c1,c2,c3,c4,c5,_⟩:=hN.nb
 have HW:Hid _:=hw
 have HVE:Hid (s.view g q=if a08 g.n q then s.vs.getD q.toNat [] else []):=rfl
 have HVK:Hid (viewK g.n q=if a08 g.n q then 0 else 1):=rfl
 have HN:Hid _:=hN
 have HS:Hid _:=hs
 clear hN hFt h hst hs hw hkf
 go_enter Tryz.func176,Tryz.ntmps176
 go_wp2_with fail
 refine (a3o g.n g.W g.B g.L q w).mono ?_
 rintro e w1 ⟨rfl,hb1⟩
 have HB1:Hid _:=hb1
 have HN1:Hid _:=HN.out.low hb1
 have HW1:Hid _:=HW.out.low hb1
 clear c0 c1 c2 c3 c4 c5 hb1
 have c5:=HN1.out.nb.c5
 by_cases hq:a08 g.n q=true
 ·have hq2:=of_decide_eq_true hq
  obtain ⟨k,rfl⟩:∃ k:Nat,q=k:=⟨q.toNat,by omega⟩
  have hk:k<g.n:=by omega
  have hki:(k:Int)<(g.n:Int):=by omega
  have hrow:=HN1.out.nv.row k hk
  have HV2:Hid (s.view g k=s.vs.getD k []):=by show s.view g k=_;rw [HVE.out,if_pos hq];rfl
  have HCl:Hid (Calls Tryz.prog 101 #[.slice (some ⟨G.rows.getD k 0,0,none⟩) g.n g.n] w1 fun e w'=>(∃ v,e=.returned v∧w'.ownsRow w1.heap.size 3 1 v g.n (irow (s.vs.getD k [])))∧Below w1.heap.size w1 w'):=a3x ⟨G.rows.getD k 0,0,none⟩ g.n g.n (s.vs.getD k []) w1 (show Ints w1 _ _ _ from ⟨HN1.out.nv.elen k hk,fun i hi=>⟨_,0,rfl,(HN1.out.nv.each k hk).lt,by rw [Nat.zero_add];exact HN1.out.nv.cell hk hi⟩⟩) (by omega) (by omega)
  have HEl:Hid ((s.vs.getD k []).length=g.n):=HN1.out.nv.elen k hk
  rw [decide_eq_true hq2]
  clear hq2
  generalize G.rows.getD k 0=gk at *
  go_wp2_with fail
  refine HCl.out.mono ?_
  rintro e w2 ⟨⟨v,rfl,ho⟩,hb⟩
  have HO:Hid _:=ho
  have HB2:Hid _:=bthen HB1.out hb
  have HZ:Hid (w.heap.size≤w1.heap.size):=HB1.out.size
  obtain ⟨av,cv,hsh⟩:=a01 ho
  subst hsh
  clear ho hb
  go_wp2_with fail
  go_ret2
  refine ⟨⟨_,_,rfl,?_,?_⟩,HB2.out⟩
  ·rw [HVK.out,if_pos hq]
   exact ⟨Or.inl ⟨rfl,rfl⟩⟩
  ·rw [HV2.out,HEl.out]
   exact a3g HO.out HZ.out
 ·have hqf:a08 g.n q=false:=by simpa using hq
  rw [show decide (0≤q∧q<(g.n:Int))=false from hqf]
  have e1:w1.cell? ⟨0,0,none⟩=some (.iface 298 (.pointer (some (A 1)))):=HW1.out.s.c 1 (by decide) (by decide)
  go_wp2_with (go_at_call 90;refine (a0r _ _ _).mono ?_;rintro e w' ⟨rfl,rfl⟩)
  go_ret2
  refine ⟨⟨_,_,rfl,?_,?_⟩,HB1.out⟩
  ·rw [HVK.out,hqf]
   exact ⟨Or.inr (Or.inl ⟨by decide,by decide,_,rfl⟩)⟩
  ·rw [HVE.out,hqf]
   exact World.ownsRow_nil _ _ _ _
structure a0p (w:World) (mb:Nat) (g:Gr) (x:MNet) (F:Nat→Prop):Prop where
 how:∃ M,Msh w mb g x M∧∀ k,F k↔M.foot mb g.n k
theorem a0p.alike {w w':World} {mb:Nat} {g:Gr} {x:MNet} {F E:Nat→Prop} (h:a0p w mb g x F) (ha:Alike w w' E) (hE:∀ k,F k→¬ E k):a0p w' mb g x F:=by
 obtain ⟨M,h1,h2⟩:=h.how
 exact ⟨M,h1.alike ha (fun k hk=>hE k ((h2 k).2 hk)),h2⟩
theorem a0p.low {w w':World} {mb:Nat} {g:Gr} {x:MNet} {F:Nat→Prop} (h:a0p w mb g x F) (hb:Below w.heap.size w w'):a0p w' mb g x F:=h.alike (Alike.of_below hb (fun _=>False)) (fun _ _ h=>h)
theorem a0p.lt {w:World} {mb:Nat} {g:Gr} {x:MNet} {F:Nat→Prop} (h:a0p w mb g x F) {k:Nat} (hk:F k):k<w.heap.size:=by
 obtain ⟨M,h1,h2⟩:=h.how
 exact h1.lt ((h2 k).1 hk)
structure MDid (w w':World) (mb:Nat) (g:Gr) (F:Nat→Prop) (x:MNet):Prop where
 net:∃ F',a0p w' mb g x F'∧∀ k,F' k→F k∨w.heap.size≤k
 rest:Alike w w' F
theorem MAt.done {w y:World} {mb:Nat} {g:Gr} {F:Nat→Prop} {M:MLay} {x:MNet} (h:MAt w y mb g F M x):MDid w y mb g F x:=⟨⟨M.foot mb g.n,⟨M,h.msh,fun _=>Iff.rfl⟩,h.own⟩,h.rest⟩
theorem MDid.none {w w':World} {mb:Nat} {g:Gr} {F:Nat→Prop} {x:MNet} (h:a0p w mb g x F) (hb:Below w.heap.size w w'):MDid w w' mb g F x:=⟨⟨F,h.low hb,fun _ h=>Or.inl h⟩,Alike.of_below hb _⟩
structure MNet.Ok (g:Gr) (x:MNet):Prop where
 nd:∀ p,p<g.n→(x.nd p).Ok g p
 bag:∀ t∈x.bag,(∃ q:Nat,t.to=q∧q<g.n)∧t.text.size≤100
 ref:∀ p,p<g.n→0≤x.ref p∧x.ref p≤1000000000000
 len:x.bag.length≤100000000000
set_option maxHeartbeats 1000000 in
theorem a0w (A:Nat→Addr) (base mb:Nat) (g:Gr) (x:MNet) (M:MLay) (p:Int) (w:World) (hw:Sl w A base) (h:Msh w mb g x M) :
  Calls Tryz.prog 98 #[.pointer (some ⟨mb,0,none⟩),.int .i64 p] w fun e w'=>(∃ v er,e=.returned (.tuple #[v,er])∧a0l A er (viewK g.n p)∧(a08 g.n p=true→v=.pointer (some ⟨M.gm,p.toNat * 2,none⟩)∧er=.nilIface)∧(a08 g.n p=false→v=.pointer none∧∃ t y,er=.iface t y))∧Below w.heap.size w w':=by
 have c0:=h.c0
 have e1:w.cell? ⟨0,0,none⟩=some (.iface 298 (.pointer (some (A 1)))):=hw.s.c 1 (by decide) (by decide)
 have HVK:Hid (viewK g.n p=if decide (0≤p∧p<g.n) then 0 else 1):=rfl
 have HIN:Hid (a08 g.n p=decide (0≤p∧p<g.n)):=rfl
 clear h hw
 generalize viewK g.n p=K at *
 generalize a08 g.n p=b at *
 go_enter Tryz.func98,Tryz.ntmps98
 by_cases h0:0≤p
 ·obtain ⟨q,rfl⟩:∃ q:Nat,p=q:=⟨p.toNat,by omega⟩
  by_cases h1:(q:Int)<(g.n:Int)
  ·have HB:Hid (b=true∧K=0):=by
    have h2:=HVK.out
    rw [decide_eq_true ⟨h0,h1⟩] at h2
    exact ⟨HIN.out.trans (decide_eq_true ⟨h0,h1⟩),h2⟩
   clear HVK HIN
   go_wp2_with fail
   go_ret2
   refine ⟨⟨_,_,rfl,?_,fun _=>⟨rfl,rfl⟩,fun h=>?_⟩,Below.refl _ _⟩
   ·rw [HB.out.2]
    exact ⟨Or.inl ⟨rfl,rfl⟩⟩
   ·rw [HB.out.1] at h
    cases h
  ·have HB:Hid (b=false∧K=1):=by
    have h2:=HVK.out
    rw [decide_eq_false (fun h=>h1 h.2)] at h2
    exact ⟨HIN.out.trans (decide_eq_false (fun h=>h1 h.2)),h2⟩
   clear HVK HIN
   go_wp2_with fail
   go_quiet (fail)
   go_wp2_with fail
   go_ret2
   refine ⟨⟨_,_,rfl,?_,fun h=>?_,fun _=>⟨rfl,_,_,rfl⟩⟩,below_drewN (Below.refl _ _) _⟩
   ·rw [HB.out.2]
    exact ⟨Or.inr (Or.inl ⟨by decide,by decide,_,rfl⟩)⟩
   ·rw [HB.out.1] at h
    cases h
 ·have HB:Hid (b=false∧K=1):=by
   have h2:=HVK.out
   rw [decide_eq_false (fun h=>h0 h.1)] at h2
   exact ⟨HIN.out.trans (decide_eq_false (fun h=>h0 h.1)),h2⟩
  clear HVK HIN
  go_wp2_with fail
  go_quiet (fail)
  go_wp2_with fail
  go_ret2
  refine ⟨⟨_,_,rfl,?_,fun h=>?_,fun _=>⟨rfl,_,_,rfl⟩⟩,below_drewN (Below.refl _ _) _⟩
  ·rw [HB.out.2]
   exact ⟨Or.inr (Or.inl ⟨by decide,by decide,_,rfl⟩)⟩
  ·rw [HB.out.1] at h
   cases h
theorem ad9 (g:Gr) (p:Nat) (s:NS) (body:ByteArray):(s.say g p body).ps.length≤g.n:=by
 unfold NS.say
 split
 ·exact a3j _ _ _ _ _
 ·exact Nat.zero_le _
def MNet.say (g:Gr) (x:MNet) (p:Nat) (body:ByteArray):MNet:={ x.put p ((x.nd p).say g p body).s with bag:=x.bag++((x.nd p).say g p body).ps }
set_option maxHeartbeats 1000000 in
theorem ap4 (A:Nat→Addr) (base mb:Nat) (g:Gr) (x:MNet) (F:Nat→Prop) (p:Nat) (body:ByteArray) (hg:g.Ok) (hp:p<g.n) (hx:x.Ok g) (w:World) (hw:Sl w A base) (hF:∀ k,F k→base≤k) (h:a0p w mb g x F) :
  Calls Tryz.prog 77 #[.pointer (some ⟨mb,0,none⟩),.int .i64 p,.string body] w fun e w'=>∃ er,e=.returned (.tuple #[.int .i64 ((x.nd p).say g p body).q,er])∧a0l A er ((x.nd p).say g p body).k∧MDid w w' mb g F (x.say g p body):=by
 obtain ⟨M,hM,hFt⟩:=h.how
 have HM:Hid _:=hM
 have HW:Hid _:=hw
 have HF:Hid _:=hF
 have HFt:Hid _:=hFt
 have HX:Hid _:=hx
 have hin:a08 g.n p=true:=decide_eq_true ⟨by omega,by omega⟩
 have HPk:Hid (((x.nd p).say g p body).ps.length≤8):=Nat.le_trans (ad9 _ _ _ _) hg.n.2
 have HXE:Hid (x.say g p body = { x.put p ((x.nd p).say g p body).s with bag:=x.bag++((x.nd p).say g p body).ps }):=rfl
 have HSa:Hid _:=fun w1 hb1=>b44 A base (M.nb p) g p (x.nd p) (M.Fp p) body hg hp (hx.nd p hp) w1 (hw.low hb1) (fun k hk=>hF k ((hFt k).2 (Or.inr (Or.inr (Or.inr ⟨p,hp,hk⟩))))) ((hM.low hb1).node p hp)
 generalize x.say g p body=x' at *
 generalize (x.nd p).say g p body=R at *
 clear h hw hF hFt hx hM
 go_enter Tryz.func77,Tryz.ntmps77
 go_wp2_with fail
 refine (a0w A base mb g x M p w HW.out HM.out).mono ?_
 rintro e w1 ⟨⟨v1,er1,rfl,_,hyes,_⟩,hb1⟩
 obtain ⟨rfl,rfl⟩:=hyes hin
 have HB1:Hid _:=hb1
 have HM1:Hid _:=HM.out.low hb1
 clear hyes hb1
 obtain ⟨m0,m1⟩:=HM1.out.mem p hp
 rw [Int.toNat_natCast]
 have HLn:Hid _:=HX.out.len
 have HT1:Hid _:=(MAt.begin (F:=F) HM.out (fun k hk=>(HFt.out k).2 hk)).low HB1.out
 have HSy:Hid _:=HSa.out w1 HB1.out
 clear hin
 go_wp2_with fail
 refine (show Calls _ _ _ _ _ from HSy.out).mono ?_
 rintro e w2 ⟨v,er,rfl,her,hd⟩
 have HE:Hid _:=her
 have HD:Hid _:=hd
 obtain ⟨M2,hT2,eg,ew,ec,en⟩:=HT1.out.noded hp hd
 have HT2:Hid _:=hT2
 obtain ⟨av,cv,hsh⟩:=a01 hd.pks.own
 subst hsh
 have HNe:Hid (∀ k,(Value.slice av R.ps.length cv).ownBlock=some k→¬ onB M2.wa k):=fun k hk hc=>by
  have h1:=hd.pks.block k hk
  rw [ew] at hc
  have h2:=HM1.out.way.lt hc
  omega
 clear her hd hT2 eg ew ec en m0 m1 HSy
 go_wp2_with fail
 refine (a7d mb M2.wa M2.wcap x.bag R.ps _ w1.heap.size w2 HT2.out.msh.way HD.out.pks HNe.out (by have:=HPk.out;have:=HLn.out;omega)).mono ?_
 rintro e w3 ⟨rfl,hl⟩
 obtain ⟨M3,hT3,_⟩:=HT2.out.laid hl
 have HT3:Hid _:=hT3
 clear hl hT3
 go_wp2_with fail
 go_ret2
 refine ⟨_,rfl,HE.out,?_⟩
 rw [HXE.out]
 exact HT3.out.done
set_option maxHeartbeats 1000000 in
theorem az8 (A:Nat→Addr) (base mb:Nat) (g:Gr) (x:MNet) (F:Nat→Prop) (p:Int) (body:ByteArray) (hp:a08 g.n p=false) (w:World) (hw:Sl w A base) (h:a0p w mb g x F) :
  Calls Tryz.prog 77 #[.pointer (some ⟨mb,0,none⟩),.int .i64 p,.string body] w fun e w'=>(∃ er,e=.returned (.tuple #[.int .i64 0,er])∧a0l A er 1)∧Below w.heap.size w w':=by
 obtain ⟨M,hM,hFt⟩:=h.how
 have HK:Hid (viewK g.n p=1):=by
  show viewK g.n p=1
  unfold viewK
  rw [show decide (0≤p∧p<(g.n:Int))=false from hp]
  rfl
 have HMe:Hid _:=a0w A base mb g x M p w hw hM
 clear h hw hFt hM
 go_enter Tryz.func77,Tryz.ntmps77
 go_wp2_with fail
 refine (show Calls _ _ _ _ _ from HMe.out).mono ?_
 rintro e w1 ⟨⟨v1,er1,rfl,her,_,hno⟩,hb1⟩
 obtain ⟨rfl,t,y,rfl⟩:=hno hp
 rw [HK.out] at her
 have HE:Hid _:=her
 have HB1:Hid _:=hb1
 clear hno hb1 her HMe
 go_wp2_with fail
 go_ret2
 exact ⟨⟨_,rfl,HE.out⟩,HB1.out⟩
set_option maxHeartbeats 1000000 in
theorem aq6 (A:Nat→Addr) (base mb:Nat) (g:Gr) (x:MNet) (F:Nat→Prop) (p:Int) (hp:a08 g.n p=false) (w:World) (hw:Sl w A base) (h:a0p w mb g x F) :
  Calls Tryz.prog 79 #[.pointer (some ⟨mb,0,none⟩),.int .i64 p] w fun e w'=>(∃ er,e=.returned er∧a0l A er 1)∧Below w.heap.size w w':=by
 obtain ⟨M,hM,hFt⟩:=h.how
 have HK:Hid (viewK g.n p=1):=by
  show viewK g.n p=1
  unfold viewK
  rw [show decide (0≤p∧p<(g.n:Int))=false from hp]
  rfl
 have HMe:Hid _:=a0w A base mb g x M p w hw hM
 clear h hw hFt hM
 go_enter Tryz.func79,Tryz.ntmps79
 go_wp2_with fail
 refine (show Calls _ _ _ _ _ from HMe.out).mono ?_
 rintro e w1 ⟨⟨v1,er1,rfl,her,_,hno⟩,hb1⟩
 obtain ⟨rfl,t,y,rfl⟩:=hno hp
 rw [HK.out] at her
 have HE:Hid _:=her
 have HB1:Hid _:=hb1
 clear hno hb1 her HMe
 go_wp2_with fail
 go_ret
 exact ⟨⟨_,rfl,HE.out⟩,HB1.out⟩
set_option maxHeartbeats 1000000 in
theorem ag9 (A:Nat→Addr) (base mb:Nat) (g:Gr) (x:MNet) (F:Nat→Prop) (p:Int) (hp:a08 g.n p=false) (w:World) (hw:Sl w A base) (h:a0p w mb g x F) :
  Calls Tryz.prog 61 #[.pointer (some ⟨mb,0,none⟩),.int .i64 p] w fun e w'=>(∃ er,e=.returned (.tuple #[.slice none 0 0,er])∧a0l A er 1)∧Below w.heap.size w w':=by
 obtain ⟨M,hM,hFt⟩:=h.how
 have HK:Hid (viewK g.n p=1):=by
  show viewK g.n p=1
  unfold viewK
  rw [show decide (0≤p∧p<(g.n:Int))=false from hp]
  rfl
 have HMe:Hid _:=a0w A base mb g x M p w hw hM
 clear h hw hFt hM
 go_enter Tryz.func61,Tryz.ntmps61
 go_wp2_with fail
 refine (show Calls _ _ _ _ _ from HMe.out).mono ?_
 rintro e w1 ⟨⟨v1,er1,rfl,her,_,hno⟩,hb1⟩
 obtain ⟨rfl,t,y,rfl⟩:=hno hp
 rw [HK.out] at her
 have HE:Hid _:=her
 have HB1:Hid _:=hb1
 clear hno hb1 her HMe
 go_wp2_with fail
 go_ret2
 exact ⟨⟨_,rfl,HE.out⟩,HB1.out⟩
set_option maxHeartbeats 1000000 in
theorem ai3 (A:Nat→Addr) (base mb:Nat) (g:Gr) (x:MNet) (F:Nat→Prop) (p:Int) (hp:a08 g.n p=false) (w:World) (hw:Sl w A base) (h:a0p w mb g x F) :
  Calls Tryz.prog 63 #[.pointer (some ⟨mb,0,none⟩),.int .i64 p] w fun e w'=>(∃ er,e=.returned (.tuple #[.slice none 0 0,er])∧a0l A er 1)∧Below w.heap.size w w':=by
 obtain ⟨M,hM,hFt⟩:=h.how
 have HK:Hid (viewK g.n p=1):=by
  show viewK g.n p=1
  unfold viewK
  rw [show decide (0≤p∧p<(g.n:Int))=false from hp]
  rfl
 have HMe:Hid _:=a0w A base mb g x M p w hw hM
 clear h hw hFt hM
 go_enter Tryz.func63,Tryz.ntmps63
 go_wp2_with fail
 refine (show Calls _ _ _ _ _ from HMe.out).mono ?_
 rintro e w1 ⟨⟨v1,er1,rfl,her,_,hno⟩,hb1⟩
 obtain ⟨rfl,t,y,rfl⟩:=hno hp
 rw [HK.out] at her
 have HE:Hid _:=her
 have HB1:Hid _:=hb1
 clear hno hb1 her HMe
 go_wp2_with fail
 go_ret2
 exact ⟨⟨_,rfl,HE.out⟩,HB1.out⟩
set_option maxHeartbeats 1000000 in
theorem a9l (A:Nat→Addr) (base mb:Nat) (g:Gr) (x:MNet) (F:Nat→Prop) (p:Int) (hp:a08 g.n p=false) (w:World) (hw:Sl w A base) (h:a0p w mb g x F) :
  Calls Tryz.prog 142 #[.pointer (some ⟨mb,0,none⟩),.int .i64 p] w fun e w'=>(∃ er,e=.returned (.tuple #[.int .i64 0,er])∧a0l A er 1)∧Below w.heap.size w w':=by
 obtain ⟨M,hM,hFt⟩:=h.how
 have HK:Hid (viewK g.n p=1):=by
  show viewK g.n p=1
  unfold viewK
  rw [show decide (0≤p∧p<(g.n:Int))=false from hp]
  rfl
 have HMe:Hid _:=a0w A base mb g x M p w hw hM
 clear h hw hFt hM
 go_enter Tryz.func142,Tryz.ntmps142
 go_wp2_with fail
 refine (show Calls _ _ _ _ _ from HMe.out).mono ?_
 rintro e w1 ⟨⟨v1,er1,rfl,her,_,hno⟩,hb1⟩
 obtain ⟨rfl,t,y,rfl⟩:=hno hp
 rw [HK.out] at her
 have HE:Hid _:=her
 have HB1:Hid _:=hb1
 clear hno hb1 her HMe
 go_wp2_with fail
 go_ret2
 exact ⟨⟨_,rfl,HE.out⟩,HB1.out⟩
theorem a7z {g:Gr} {p:Nat} {s:NS} (hg:g.Ok) (hs:s.Ok g p):(s.tick g p).length≤520:=by
 have h1:=a5u g p s (hs.short hg) g.n
 have h2:=hg.n.2
 unfold NS.tick
 omega
def MNet.tick (g:Gr) (x:MNet) (p:Nat):MNet:={ x with bag:=x.bag++(x.nd p).tick g p }
set_option maxHeartbeats 1000000 in
theorem ag2 (A:Nat→Addr) (base mb:Nat) (g:Gr) (x:MNet) (F:Nat→Prop) (p:Nat) (hg:g.Ok) (hp:p<g.n) (hx:x.Ok g) (w:World) (hw:Sl w A base) (h:a0p w mb g x F) :
  Calls Tryz.prog 79 #[.pointer (some ⟨mb,0,none⟩),.int .i64 p] w fun e w'=>e=.returned .nilIface∧MDid w w' mb g F (x.tick g p):=by
 obtain ⟨M,hM,hFt⟩:=h.how
 have HM:Hid _:=hM
 have HMe:Hid _:=a0w A base mb g x M p w hw hM
 have hin:a08 g.n p=true:=decide_eq_true ⟨by omega,by omega⟩
 have HFt:Hid _:=hFt
 have HTk:Hid _:=fun w1 hb1=>a7m A base (M.nb p) g p (x.nd p) (M.Fp p) hg hp (hx.nd p hp) w1 (hw.low hb1) ((hM.low hb1).node p hp)
 have HPk:Hid (((x.nd p).tick g p).length≤520):=a7z hg (hx.nd p hp)
 have HLn:Hid _:=hx.len
 have HXE:Hid (x.tick g p = { x with bag:=x.bag++(x.nd p).tick g p }):=rfl
 generalize x.tick g p=x' at *
 generalize (x.nd p).tick g p=ps at *
 clear h hw hFt hx hM
 go_enter Tryz.func79,Tryz.ntmps79
 go_wp2_with fail
 refine (show Calls _ _ _ _ _ from HMe.out).mono ?_
 rintro e w1 ⟨⟨v1,er1,rfl,_,hyes,_⟩,hb1⟩
 obtain ⟨rfl,rfl⟩:=hyes hin
 have HB1:Hid _:=hb1
 have HM1:Hid _:=HM.out.low hb1
 clear hyes hb1 HMe hin
 obtain ⟨m0,m1⟩:=HM1.out.mem p hp
 rw [Int.toNat_natCast]
 have HTy:Hid _:=HTk.out w1 HB1.out
 go_wp2_with fail
 refine (show Calls _ _ _ _ _ from HTy.out).mono ?_
 rintro e w2 ⟨⟨v,rfl,hps⟩,hb2⟩
 have HT2:Hid _:=(MAt.begin (F:=F) HM.out (fun k hk=>(HFt.out k).2 hk)).low (bthen HB1.out hb2)
 have HP:Hid _:=hps
 obtain ⟨av,cv,hsh⟩:=a01 hps.own
 subst hsh
 have HNe:Hid (∀ k,(Value.slice av ps.length cv).ownBlock=some k→¬ onB M.wa k):=fun k hk hc=>by
  have h1:=hps.block k hk
  have h2:=HM1.out.way.lt hc
  omega
 clear hps hb2 m0 m1 HTy
 go_wp2_with fail
 refine (a7d mb M.wa M.wcap x.bag ps _ w1.heap.size w2 HT2.out.msh.way HP.out HNe.out (by have:=HPk.out;have:=HLn.out;omega)).mono ?_
 rintro e w3 ⟨rfl,hl⟩
 obtain ⟨M3,hT3,_⟩:=HT2.out.laid hl
 have HT3:Hid _:=hT3
 clear hl hT3
 go_wp2_with fail
 go_ret
 refine ⟨rfl,?_⟩
 rw [HXE.out]
 exact HT3.out.done
set_option maxHeartbeats 1000000 in
theorem ac7 (A:Nat→Addr) (base mb:Nat) (g:Gr) (x:MNet) (F:Nat→Prop) (p:Nat) (hg:g.Ok) (hp:p<g.n) (hx:x.Ok g) (w:World) (hw:Sl w A base) (h:a0p w mb g x F) :
  Calls Tryz.prog 61 #[.pointer (some ⟨mb,0,none⟩),.int .i64 p] w fun e w'=>(∃ v,e=.returned (.tuple #[v,.nilIface])∧Wrd w' w.heap.size v (x.nd p).hs)∧Below w.heap.size w w':=by
 obtain ⟨M,hM,hFt⟩:=h.how
 have HM:Hid _:=hM
 have HMe:Hid _:=a0w A base mb g x M p w hw hM
 have hin:a08 g.n p=true:=decide_eq_true ⟨by omega,by omega⟩
 have HC:Hid _:=fun w1 hb1=>a6f (M.nb p) g p (x.nd p) (M.Fp p) hg hp (hx.nd p hp) w1 ((hM.low hb1).node p hp)
 generalize (x.nd p).hs=ws at *
 clear h hw hFt hx hM
 go_enter Tryz.func61,Tryz.ntmps61
 go_wp2_with fail
 refine (show Calls _ _ _ _ _ from HMe.out).mono ?_
 rintro e w1 ⟨⟨v1,er1,rfl,_,hyes,_⟩,hb1⟩
 obtain ⟨rfl,rfl⟩:=hyes hin
 have HB1:Hid _:=hb1
 have HM1:Hid _:=HM.out.low hb1
 clear hyes hb1 HMe hin
 obtain ⟨m0,m1⟩:=HM1.out.mem p hp
 rw [Int.toNat_natCast]
 have HTy:Hid _:=HC.out w1 HB1.out
 go_wp2_with fail
 refine (show Calls _ _ _ _ _ from HTy.out).mono ?_
 rintro e w2 ⟨⟨v,rfl,hps⟩,hb2⟩
 have HP:Hid (Wrd w2 w1.heap.size v ws):=⟨hps⟩
 have HB2:Hid _:=bthen HB1.out hb2
 have HZ:Hid (w.heap.size≤w1.heap.size):=HB1.out.size
 obtain ⟨av,cv,hsh⟩:=a01 HP.out.own
 subst hsh
 clear hps hb2 m0 m1 HTy
 go_wp2_with fail
 go_ret2
 exact ⟨⟨_,rfl,HP.out.mono HZ.out⟩,HB2.out⟩
set_option maxHeartbeats 1000000 in
theorem ac5 (A:Nat→Addr) (base mb:Nat) (g:Gr) (x:MNet) (F:Nat→Prop) (p:Nat) (hg:g.Ok) (hp:p<g.n) (hx:x.Ok g) (w:World) (hw:Sl w A base) (h:a0p w mb g x F) :
  Calls Tryz.prog 63 #[.pointer (some ⟨mb,0,none⟩),.int .i64 p] w fun e w'=>(∃ v,e=.returned (.tuple #[v,.nilIface])∧Wrd w' w.heap.size v (x.nd p).kept)∧Below w.heap.size w w':=by
 obtain ⟨M,hM,hFt⟩:=h.how
 have HM:Hid _:=hM
 have HMe:Hid _:=a0w A base mb g x M p w hw hM
 have hin:a08 g.n p=true:=decide_eq_true ⟨by omega,by omega⟩
 have HC:Hid _:=fun w1 hb1=>a6g (M.nb p) g p (x.nd p) (M.Fp p) hg (hx.nd p hp) w1 ((hM.low hb1).node p hp)
 generalize (x.nd p).kept=ws at *
 clear h hw hFt hx hM
 go_enter Tryz.func63,Tryz.ntmps63
 go_wp2_with fail
 refine (show Calls _ _ _ _ _ from HMe.out).mono ?_
 rintro e w1 ⟨⟨v1,er1,rfl,_,hyes,_⟩,hb1⟩
 obtain ⟨rfl,rfl⟩:=hyes hin
 have HB1:Hid _:=hb1
 have HM1:Hid _:=HM.out.low hb1
 clear hyes hb1 HMe hin
 obtain ⟨m0,m1⟩:=HM1.out.mem p hp
 rw [Int.toNat_natCast]
 have HTy:Hid _:=HC.out w1 HB1.out
 go_wp2_with fail
 refine (show Calls _ _ _ _ _ from HTy.out).mono ?_
 rintro e w2 ⟨⟨v,rfl,hps⟩,hb2⟩
 have HP:Hid (Wrd w2 w1.heap.size v ws):=hps
 have HB2:Hid _:=bthen HB1.out hb2
 have HZ:Hid (w.heap.size≤w1.heap.size):=HB1.out.size
 obtain ⟨av,cv,hsh⟩:=a01 HP.out.own
 subst hsh
 clear hps hb2 m0 m1 HTy
 go_wp2_with fail
 go_ret2
 exact ⟨⟨_,rfl,HP.out.mono HZ.out⟩,HB2.out⟩
set_option maxHeartbeats 1000000 in
theorem a92 (A:Nat→Addr) (base mb:Nat) (g:Gr) (x:MNet) (F:Nat→Prop) (p:Nat) (hp:p<g.n) (w:World) (hw:Sl w A base) (h:a0p w mb g x F) :
  Calls Tryz.prog 142 #[.pointer (some ⟨mb,0,none⟩),.int .i64 p] w fun e w'=>e=.returned (.tuple #[.int .i64 (x.ref p),.nilIface])∧Below w.heap.size w w':=by
 obtain ⟨M,hM,hFt⟩:=h.how
 have HM:Hid _:=hM
 have HMe:Hid _:=a0w A base mb g x M p w hw hM
 have hin:a08 g.n p=true:=decide_eq_true ⟨by omega,by omega⟩
 clear h hw hFt hM
 go_enter Tryz.func142,Tryz.ntmps142
 go_wp2_with fail
 refine (show Calls _ _ _ _ _ from HMe.out).mono ?_
 rintro e w1 ⟨⟨v1,er1,rfl,_,hyes,_⟩,hb1⟩
 obtain ⟨rfl,rfl⟩:=hyes hin
 have HB1:Hid _:=hb1
 have HM1:Hid _:=HM.out.low hb1
 clear hyes hb1 HMe hin
 obtain ⟨m0,m1⟩:=HM1.out.mem p hp
 rw [Int.toNat_natCast]
 go_wp2_with fail
 go_ret2
 exact ⟨rfl,HB1.out⟩
theorem b5x {ps:List Pk} {k:Nat} {t:Pk} (h:ps[k]?=some t):(prow ps)[k * 2]?=some (.int .i64 t.to)∧(prow ps)[k * 2+1]?=some (.string t.text):=by
 have hk:=(List.getElem?_eq_some_iff.1 h).1
 have hd:ps=ps.take k++(t :: ps.drop (k+1)):=by
  rw [←(List.getElem?_eq_some_iff.1 h).2]
  conv=>lhs;rw [←List.take_append_drop k ps,List.drop_eq_getElem_cons hk]
 have hl:(prow (ps.take k)).length=k * 2:=by rw [a1u,List.length_take];omega
 have he:prow ps=prow (ps.take k)++(.int .i64 t.to :: .string t.text :: prow (ps.drop (k+1))):=by
  conv=>lhs;rw [hd,a0q]
  rfl
 rw [he]
 constructor
 ·rw [List.getElem?_append_right (by omega),hl,Nat.sub_self]
  rfl
 ·rw [List.getElem?_append_right (by omega),hl,Nat.add_sub_cancel_left]
  rfl
theorem Way.get {w:World} {mb:Nat} {wa:Option Addr} {wcap:Nat} {bag:List Pk} (h:Way w mb wa wcap bag) {k:Nat} {t:Pk} (hk:bag[k]?=some t):∃ g,wa=some ⟨g,0,none⟩∧w.cell? ⟨g,k * 2,none⟩=some (.int .i64 t.to)∧w.cell? ⟨g,k * 2+1,none⟩=some (.string t.text):=by
 have hkl:=(List.getElem?_eq_some_iff.1 hk).1
 obtain ⟨h0,h1⟩:=b5x hk
 rcases h.own.2 with ⟨_,h0⟩ | ⟨g,cap',cur,he,_,hh,_⟩
 ·omega
 ·cases he
  refine ⟨g,rfl,?_,?_⟩
  ·rw [World.ownsRow.cellAt h.own (k * 2) (by omega)]
   exact h0
  ·rw [World.ownsRow.cellAt h.own (k * 2+1) (by omega)]
   exact h1
set_option maxHeartbeats 1000000 in
theorem a3e (mb:Nat) (wa:Option Addr) (wcap:Nat) (bag:List Pk) (k:Nat) (t:Pk) (hk:bag[k]?=some t) (w:World) (h:Way w mb wa wcap bag) :
  Calls Tryz.prog 95 #[.pointer (some ⟨mb,0,none⟩),.int .i64 k] w fun e w'=>e=.returned (.tuple #[.agg #[.int .i64 t.to,.string t.text],.nilIface])∧Below w.heap.size w w':=by
 have hkl:=(List.getElem?_eq_some_iff.1 hk).1
 obtain ⟨g,rfl,k0,k1⟩:=h.get hk
 have c1:=h.c1
 have hki:(k:Int)<(bag.length:Int):=by omega
 have hal:=a00 w (.cells #[.int .i64 0,.string ⟨#[]⟩] 109)
 have c1':=(hal.cell (p:=⟨mb,1,none⟩) (lt_of_cell c1)).trans c1
 have k0':=(hal.cell (p:=⟨g,k * 2,none⟩) (lt_of_cell k0)).trans k0
 have k1':=(hal.cell (p:=⟨g,k * 2+1,none⟩) (lt_of_cell k1)).trans k1
 clear h hk c1 k0 k1 hal
 go_enter Tryz.func95,Tryz.ntmps95
 go_wp2_with fail
 refine bodyPost_ret (v:=.tuple #[.agg #[.int .i64 t.to,.string t.text],.nilIface]) (by simp [results,Tryz.results95,go_sem]) rfl ⟨rfl,?_⟩
 exact a00 _ _
set_option maxHeartbeats 1000000 in
theorem a3v (A:Nat→Addr) (base mb:Nat) (wa:Option Addr) (wcap:Nat) (bag:List Pk) (k:Int) (hk:a08 bag.length k=false) (w:World) (hw:Sl w A base) (h:Way w mb wa wcap bag) :
  Calls Tryz.prog 95 #[.pointer (some ⟨mb,0,none⟩),.int .i64 k] w fun e w'=>(∃ er,e=.returned (.tuple #[.agg #[.int .i64 0,.string ⟨#[]⟩],er])∧a0l A er 1∧∃ t y,er=.iface t y)∧Below w.heap.size w w':=by
 have c1:=h.c1
 have e1:w.cell? ⟨0,0,none⟩=some (.iface 298 (.pointer (some (A 1)))):=hw.s.c 1 (by decide) (by decide)
 have hk':=of_decide_eq_false hk
 have hal:=a00 w (.cells #[.int .i64 0,.string ⟨#[]⟩] 109)
 have HAL:Hid _:=hal
 have c1':=(hal.cell (p:=⟨mb,1,none⟩) (lt_of_cell c1)).trans c1
 have e1':=(hal.cell (p:=⟨0,0,none⟩) (lt_of_cell e1)).trans e1
 have HI:Hid (∀ s,a0l A (.iface 208 (.agg #[.string s,.iface 298 (.pointer (some (A 1)))])) 1):=fun s=>⟨Or.inr (Or.inl ⟨by decide,by decide,s,rfl⟩)⟩
 have hz:0<w.heap.size:=lt_of_cell e1
 have hz1:w.heap.size≠0:=by omega
 have hz2:0≠w.heap.size:=by omega
 clear h hw hk hal c1 e1
 by_cases h0:k<0
 ·have hd:decide (k<0)=true:=decide_eq_true h0
  clear hk'
  go_enter Tryz.func95,Tryz.ntmps95
  go_wp2_with fail
  go_region
  all_goals
   go_wp2_with fail
   refine bodyPost_ret (v:=.tuple #[.agg #[.int .i64 0,.string ⟨#[]⟩],_]) (by simp [results,Tryz.results95,go_sem];rfl) rfl ⟨⟨_,rfl,HI.out _,_,_,rfl⟩,HAL.out.drew⟩
 ·obtain ⟨q,rfl⟩:∃ q:Nat,k=q:=⟨k.toNat,by omega⟩
  have hq:¬ ((q:Int)<0):=h0
  have hq2:(bag.length:Int)≤(q:Int):=by omega
  clear hk'
  go_enter Tryz.func95,Tryz.ntmps95
  go_wp2_with fail
  go_region
  all_goals
   go_wp2_with fail
   refine bodyPost_ret (v:=.tuple #[.agg #[.int .i64 0,.string ⟨#[]⟩],_]) (by simp [results,Tryz.results95,go_sem];rfl) rfl ⟨⟨_,rfl,HI.out _,_,_,rfl⟩,HAL.out.drew⟩
set_option maxHeartbeats 1000000 in
theorem aj1 (mb:Nat) (wa:Option Addr) (wcap:Nat) (bag:List Pk) (w:World) (h:Way w mb wa wcap bag) :
  Calls Tryz.prog 80 #[.pointer (some ⟨mb,0,none⟩)] w fun e w'=>e=.returned (.int .i64 (bag.length:Int))∧w'=w:=by
 have c1:=h.c1
 clear h
 go_enter Tryz.func80,Tryz.ntmps80
 go_wp2_with fail
 go_ret
 exact ⟨rfl,rfl⟩
theorem b1f (w:World) (t:Pk):Pks (w.alloc (.cells #[.int .i64 t.to,.string t.text] 109)) w.heap.size (.slice (some ⟨w.heap.size,0,none⟩) 1 1) [t]:=
 ⟨rfl,Or.inr ⟨w.heap.size,1,_,rfl,Nat.le_refl _,heap_alloc_new _ _,Nat.le_refl _,by decide,rfl,rfl⟩⟩
set_option maxHeartbeats 1000000 in
theorem ap1 (A:Nat→Addr) (base mb:Nat) (g:Gr) (x:MNet) (F:Nat→Prop) (k:Int) (hk:a08 x.bag.length k=false) (w:World) (hw:Sl w A base) (h:a0p w mb g x F) :
  Calls Tryz.prog 82 #[.pointer (some ⟨mb,0,none⟩),.int .i64 k] w fun e w'=>(∃ er,e=.returned er∧a0l A er 1)∧Below w.heap.size w w':=by
 obtain ⟨M,hM,hFt⟩:=h.how
 have HP:Hid _:=fun w1 (hb:Below w.heap.size w w1)=>a3v A base mb M.wa M.wcap x.bag k hk w1 (hw.low hb) (hM.low hb).way
 clear h hw hFt hM
 go_enter Tryz.func82,Tryz.ntmps82
 go_wp2_with fail
 refine (show Calls _ _ _ _ _ from HP.out _ (Below.refl _ _)).mono ?_
 rintro e w1 ⟨⟨er,rfl,her,t,y,rfl⟩,hb1⟩
 have HE:Hid _:=her
 have HB1:Hid _:=hb1
 clear hb1 her HP
 go_wp2_with fail
 go_ret
 exact ⟨⟨_,rfl,HE.out⟩,bthen HB1.out (a00 _ _)⟩
set_option maxHeartbeats 1000000 in
theorem ao3 (A:Nat→Addr) (base mb:Nat) (g:Gr) (x:MNet) (F:Nat→Prop) (k:Int) (hk:a08 x.bag.length k=false) (w:World) (hw:Sl w A base) (h:a0p w mb g x F) :
  Calls Tryz.prog 97 #[.pointer (some ⟨mb,0,none⟩),.int .i64 k] w fun e w'=>(∃ er,e=.returned er∧a0l A er 1)∧Below w.heap.size w w':=by
 obtain ⟨M,hM,hFt⟩:=h.how
 have HP:Hid _:=fun w1 (hb:Below w.heap.size w w1)=>a3v A base mb M.wa M.wcap x.bag k hk w1 (hw.low hb) (hM.low hb).way
 clear h hw hFt hM
 go_enter Tryz.func97,Tryz.ntmps97
 go_wp2_with fail
 refine (show Calls _ _ _ _ _ from HP.out _ (Below.refl _ _)).mono ?_
 rintro e w1 ⟨⟨er,rfl,her,t,y,rfl⟩,hb1⟩
 have HE:Hid _:=her
 have HB1:Hid _:=hb1
 clear hb1 her HP
 go_wp2_with fail
 go_ret
 exact ⟨⟨_,rfl,HE.out⟩,bthen HB1.out (a00 _ _)⟩
set_option maxHeartbeats 1000000 in
theorem a9q (A:Nat→Addr) (base mb:Nat) (g:Gr) (x:MNet) (F:Nat→Prop) (k:Int) (hk:a08 x.bag.length k=false) (w:World) (hw:Sl w A base) (h:a0p w mb g x F) :
  Calls Tryz.prog 78 #[.pointer (some ⟨mb,0,none⟩),.int .i64 k] w fun e w'=>(∃ er,e=.returned er∧a0l A er 1)∧Below w.heap.size w w':=by
 obtain ⟨M,hM,hFt⟩:=h.how
 have HP:Hid _:=fun w1 (hb:Below w.heap.size w w1)=>a3v A base mb M.wa M.wcap x.bag k hk w1 (hw.low hb) (hM.low hb).way
 clear h hw hFt hM
 go_enter Tryz.func78,Tryz.ntmps78
 go_wp2_with fail
 refine (show Calls _ _ _ _ _ from HP.out _ (Below.refl _ _)).mono ?_
 rintro e w1 ⟨⟨er,rfl,her,t,y,rfl⟩,hb1⟩
 have HE:Hid _:=her
 have HB1:Hid _:=hb1
 clear hb1 her HP
 go_wp2_with fail
 go_ret
 exact ⟨⟨_,rfl,HE.out⟩,bthen HB1.out (a00 _ _)⟩
set_option maxHeartbeats 1000000 in
theorem am5 (mb:Nat) (g:Gr) (x:MNet) (F:Nat→Prop) (k:Nat) (t:Pk) (hk:x.bag[k]?=some t) (hx:x.Ok g) (w:World) (h:a0p w mb g x F) :
  Calls Tryz.prog 82 #[.pointer (some ⟨mb,0,none⟩),.int .i64 k] w fun e w'=>e=.returned .nilIface∧MDid w w' mb g F { x with bag:=x.bag.eraseIdx k }:=by
 have hkl:=(List.getElem?_eq_some_iff.1 hk).1
 have hln:=hx.len
 obtain ⟨M,hM,hFt⟩:=h.how
 have HM:Hid _:=hM
 have HFt:Hid _:=hFt
 have HP:Hid _:=fun w1 (hb:Below w.heap.size w w1)=>a3e mb M.wa M.wcap x.bag k t hk w1 (hM.low hb).way
 clear h hFt hM hk hx
 go_enter Tryz.func82,Tryz.ntmps82
 go_wp2_with fail
 refine (show Calls _ _ _ _ _ from HP.out _ (Below.refl _ _)).mono ?_
 rintro e w1 ⟨rfl,hb1⟩
 have HT1:Hid _:=(MAt.begin (F:=F) HM.out (fun k hk=>(HFt.out k).2 hk)).low hb1
 have HTX:Hid _:=HT1.out.low (a00 w1 (.cells #[.int .i64 t.to,.string t.text] 109))
 clear hb1 HP
 go_wp2_with fail
 refine (aa9 mb M.wa M.wcap x.bag k hkl (by omega) _ HTX.out.msh.way).mono ?_
 rintro e w2 ⟨rfl,hl⟩
 obtain ⟨M2,hT2,_⟩:=HTX.out.laid hl
 have HT2:Hid _:=hT2
 clear hl hT2
 go_wp2_with fail
 go_ret
 exact ⟨rfl,HT2.out.done⟩
set_option maxHeartbeats 1000000 in
theorem ak5 (mb:Nat) (g:Gr) (x:MNet) (F:Nat→Prop) (k:Nat) (t:Pk) (hk:x.bag[k]?=some t) (hx:x.Ok g) (w:World) (h:a0p w mb g x F) :
  Calls Tryz.prog 97 #[.pointer (some ⟨mb,0,none⟩),.int .i64 k] w fun e w'=>e=.returned .nilIface∧MDid w w' mb g F { x with bag:=x.bag++[t] }:=by
 have hkl:=(List.getElem?_eq_some_iff.1 hk).1
 have hln:=hx.len
 obtain ⟨M,hM,hFt⟩:=h.how
 have HM:Hid _:=hM
 have HFt:Hid _:=hFt
 have HP:Hid _:=fun w1 (hb:Below w.heap.size w w1)=>a3e mb M.wa M.wcap x.bag k t hk w1 (hM.low hb).way
 clear h hFt hM hk hx
 go_enter Tryz.func97,Tryz.ntmps97
 go_wp2_with fail
 refine (show Calls _ _ _ _ _ from HP.out _ (Below.refl _ _)).mono ?_
 rintro e w1 ⟨rfl,hb1⟩
 have HT1:Hid _:=(MAt.begin (F:=F) HM.out (fun k hk=>(HFt.out k).2 hk)).low hb1
 have HTX:Hid _:=HT1.out.low (bthen (a00 w1 (.cells #[.int .i64 t.to,.string t.text] 109)) (a00 _ (.cells #[.int .i64 t.to,.string t.text] 109)))
 have HPX:Hid (Pks ((w1.alloc (.cells #[.int .i64 t.to,.string t.text] 109)).alloc (.cells #[.int .i64 t.to,.string t.text] 109)) (w1.heap.size+1) (.slice (some ⟨w1.heap.size+1,0,none⟩) 1 1) [t]):=by
  have h:=b1f (w1.alloc (.cells #[.int .i64 t.to,.string t.text] 109)) t
  rw [show (w1.alloc (.cells #[.int .i64 t.to,.string t.text] 109)).heap.size=w1.heap.size+1 by simp] at h
  exact h
 have HMw:Hid (∀ k,onB M.wa k→k<w1.heap.size):=fun k hk=>HT1.out.msh.way.lt hk
 clear hb1 HP
 go_wp2_with fail
 refine (a7d mb M.wa M.wcap x.bag [t] _ _ _ HTX.out.msh.way HPX.out (fun k hk hc=>by
  cases hk
  have h2:w1.heap.size+1<w1.heap.size:=HMw.out _ hc
  omega) (by simp;omega)).mono ?_
 rintro e w2 ⟨rfl,hl⟩
 obtain ⟨M2,hT2,_⟩:=HTX.out.laid hl
 have HT2:Hid _:=hT2
 clear hl hT2
 go_wp2_with fail
 go_ret
 exact ⟨rfl,HT2.out.done⟩
set_option maxHeartbeats 1000000 in
theorem an3 (A:Nat→Addr) (base mb:Nat) (g:Gr) (x:MNet) (F:Nat→Prop) (p:Int) (s:ByteArray) (hp:a08 g.n p=false) (w:World) (hw:Sl w A base) (h:a0p w mb g x F) :
  Calls Tryz.prog 143 #[.pointer (some ⟨mb,0,none⟩),.int .i64 p,.string s] w fun e w'=>(∃ er,e=.returned er∧a0l A er 1)∧Below w.heap.size w w':=by
 obtain ⟨M,hM,hFt⟩:=h.how
 have HK:Hid (viewK g.n p=1):=by
  show viewK g.n p=1
  unfold viewK
  rw [show decide (0≤p∧p<(g.n:Int))=false from hp]
  rfl
 have HMe:Hid _:=a0w A base mb g x M p w hw hM
 clear h hw hFt hM
 go_enter Tryz.func143,Tryz.ntmps143
 go_wp2_with fail
 refine (show Calls _ _ _ _ _ from HMe.out).mono ?_
 rintro e w1 ⟨⟨v1,er1,rfl,her,_,hno⟩,hb1⟩
 obtain ⟨rfl,t,y,rfl⟩:=hno hp
 rw [HK.out] at her
 have HE:Hid _:=her
 have HB1:Hid _:=hb1
 clear hno hb1 her HMe
 go_wp2_with fail
 go_ret
 exact ⟨⟨_,rfl,HE.out⟩,HB1.out⟩
set_option maxHeartbeats 1000000 in
theorem ae7 (A:Nat→Addr) (base mb:Nat) (g:Gr) (x:MNet) (F:Nat→Prop) (p:Nat) (s:ByteArray) (hp:p<g.n) (hs:100<s.size) (w:World) (hw:Sl w A base) (h:a0p w mb g x F) :
  Calls Tryz.prog 143 #[.pointer (some ⟨mb,0,none⟩),.int .i64 p,.string s] w fun e w'=>(∃ er,e=.returned er∧a0l A er 2)∧Below w.heap.size w w':=by
 obtain ⟨M,hM,hFt⟩:=h.how
 have HMe:Hid _:=a0w A base mb g x M p w hw hM
 have hin:a08 g.n p=true:=decide_eq_true ⟨by omega,by omega⟩
 have HC:Hid (∀ w1,Below w.heap.size w w1→w1.cell? ⟨1,0,none⟩=some (.iface 298 (.pointer (some (A 2))))):=fun w1 hb=>(hw.low hb).s.c 2 (by decide) (by decide)
 have hs':(100:Int)<(s.size:Int):=by omega
 clear h hw hFt hM
 go_enter Tryz.func143,Tryz.ntmps143
 go_wp2_with fail
 refine (show Calls _ _ _ _ _ from HMe.out).mono ?_
 rintro e w1 ⟨⟨v1,er1,rfl,_,hyes,_⟩,hb1⟩
 obtain ⟨rfl,rfl⟩:=hyes hin
 have HB1:Hid _:=hb1
 have e2:=HC.out w1 hb1
 clear hyes hb1 HMe hin
 go_wp2_with fail
 go_ret
 exact ⟨⟨_,rfl,⟨Or.inr (Or.inl ⟨by decide,by decide,_,rfl⟩)⟩⟩,HB1.out⟩
set_option maxHeartbeats 1000000 in
theorem ah4 (A:Nat→Addr) (base mb:Nat) (g:Gr) (x:MNet) (F:Nat→Prop) (p:Nat) (s:ByteArray) (hp:p<g.n) (hs:s.size≤100) (hx:x.Ok g) (w:World) (hw:Sl w A base) (h:a0p w mb g x F) :
  Calls Tryz.prog 143 #[.pointer (some ⟨mb,0,none⟩),.int .i64 p,.string s] w fun e w'=>e=.returned .nilIface∧MDid w w' mb g F { x with bag:=x.bag++[⟨p,s⟩] }:=by
 obtain ⟨M,hM,hFt⟩:=h.how
 have HM:Hid _:=hM
 have HFt:Hid _:=hFt
 have HMe:Hid _:=a0w A base mb g x M p w hw hM
 have hin:a08 g.n p=true:=decide_eq_true ⟨by omega,by omega⟩
 have hs':¬ (100:Int)<(s.size:Int):=by omega
 have hln:=hx.len
 clear h hw hFt hM hx
 go_enter Tryz.func143,Tryz.ntmps143
 go_wp2_with fail
 refine (show Calls _ _ _ _ _ from HMe.out).mono ?_
 rintro e w1 ⟨⟨v1,er1,rfl,_,hyes,_⟩,hb1⟩
 obtain ⟨rfl,rfl⟩:=hyes hin
 have HB1:Hid _:=hb1
 clear hyes hb1 HMe hin
 go_wp2_with fail
 refine (a9d s w1 (by omega)).mono ?_
 rintro e w2 ⟨rfl,hb2⟩
 have HT2:Hid _:=(MAt.begin (F:=F) HM.out (fun k hk=>(HFt.out k).2 hk)).low (bthen HB1.out hb2)
 have HTX:Hid _:=HT2.out.low (a00 w2 (.cells #[.int .i64 (p:Int),.string s] 109))
 have HPX:Hid _:=b1f w2 ⟨(p:Int),s⟩
 have HMw:Hid (∀ k,onB M.wa k→k<w2.heap.size):=fun k hk=>HT2.out.msh.way.lt hk
 clear hb2
 go_wp2_with fail
 refine (a7d mb M.wa M.wcap x.bag [⟨(p:Int),s⟩] _ _ _ HTX.out.msh.way HPX.out (fun k hk hc=>by
  cases hk
  have h2:w2.heap.size<w2.heap.size:=HMw.out _ hc
  omega) (by simp;omega)).mono ?_
 rintro e w3 ⟨rfl,hl⟩
 obtain ⟨M3,hT3,_⟩:=HTX.out.laid hl
 have HT3:Hid _:=hT3
 clear hl hT3
 go_wp2_with fail
 go_ret
 exact ⟨rfl,HT3.out.done⟩
theorem al4 {A:Nat→Addr} {e:Value} {k:Nat} (h:a0l A e k) (h0:k=0):e=.nilIface:=by
 rcases h.how with ⟨h,_⟩ | ⟨h,_⟩ | ⟨h,_⟩
 ·exact h
 ·omega
 ·omega
theorem az6 {A:Nat→Addr} {e:Value} {k:Nat} (h:a0l A e k) (h0:k≠0):∃ t x,e=.iface t x:=by
 rcases h.how with ⟨_,h⟩ | ⟨_,_,_,h⟩ | ⟨_,_,_,_,h⟩
 ·exact absurd h h0
 ·exact ⟨_,_,h⟩
 ·exact ⟨_,_,h⟩
theorem au2 (g:Gr) (p:Nat) (s:NS) (t:ByteArray):(s.hear g p t).ps.length≤g.n:=by
 unfold NS.hear
 split
 ·exact Nat.zero_le _
 ·split
  ·exact Nat.zero_le _
  ·split
   ·split
    ·exact Nat.zero_le _
    ·split
     ·exact a3j _ _ _ _ _
     ·exact Nat.zero_le _
   ·exact Nat.zero_le _
def MNet.a2g (g:Gr) (x:MNet) (k:Nat) (t:Pk):MNet:=
 let r:=(x.nd t.to.toNat).hear g t.to.toNat t.text
 let y:MNet:={ x.put t.to.toNat r.s with bag:=x.bag.eraseIdx k++r.ps }
 if r.k=0 then y else y.refuse t.to.toNat
set_option maxHeartbeats 1000000 in
theorem a9i (A:Nat→Addr) (base mb:Nat) (g:Gr) (x:MNet) (F:Nat→Prop) (k:Nat) (t:Pk) (hg:g.Ok) (hk:x.bag[k]?=some t) (hx:x.Ok g) (w:World) (hw:Sl w A base) (hF:∀ k,F k→base≤k) (h:a0p w mb g x F) :
  Calls Tryz.prog 78 #[.pointer (some ⟨mb,0,none⟩),.int .i64 k] w fun e w'=>∃ er,e=.returned er∧a0l A er ((x.nd t.to.toNat).hear g t.to.toNat t.text).k∧MDid w w' mb g F (x.a2g g k t):=by
 have hkl:=(List.getElem?_eq_some_iff.1 hk).1
 have hln:=hx.len
 obtain ⟨⟨p,hto,hp⟩,htx⟩:=hx.bag t (List.mem_of_getElem? hk)
 obtain ⟨to,text⟩:=t
 simp only at hto htx
 subst hto
 obtain ⟨M,hM,hFt⟩:=h.how
 have HM:Hid _:=hM
 have HFt:Hid _:=hFt
 have HP:Hid _:=fun w1 (hb:Below w.heap.size w w1)=>a3e mb M.wa M.wcap x.bag k ⟨(p:Int),text⟩ hk w1 (hM.low hb).way
 have HXE:Hid (x.a2g g k ⟨(p:Int),text⟩=if ((x.nd p).hear g p text).k=0 then { x.put p ((x.nd p).hear g p text).s with bag:=x.bag.eraseIdx k++((x.nd p).hear g p text).ps } else MNet.refuse { x.put p ((x.nd p).hear g p text).s with bag:=x.bag.eraseIdx k++((x.nd p).hear g p text).ps } p):=rfl
 have HRp:Hid (((x.nd p).hear g p text).ps.length≤8):=Nat.le_trans (au2 _ _ _ _) hg.n.2
 have HX:Hid _:=hx
 have HW:Hid _:=hw
 have HF:Hid _:=hF
 have HHe:Hid (∀ w1 b F1,Sl w1 A base→(∀ k,F1 k→base≤k)→a0m w1 b g p (x.nd p) F1→Calls Tryz.prog 96 #[.pointer (some ⟨b,0,none⟩),.string text] w1 _):=fun w1 b F1 h1 h2 h3=>as5 A base b g p (x.nd p) F1 text hg hp (hx.nd p hp) (by unfold maxLen;omega) w1 h1 h2 h3
 simp only [Int.toNat_natCast]
 generalize x.a2g g k ⟨(p:Int),text⟩=x' at *
 generalize (x.nd p).hear g p text=R at *
 clear h hFt hM hk hx hw hF
 go_enter Tryz.func78,Tryz.ntmps78
 go_wp2_with fail
 refine (show Calls _ _ _ _ _ from HP.out _ (Below.refl _ _)).mono ?_
 rintro e w1 ⟨rfl,hb1⟩
 have HT1:Hid _:=(MAt.begin (F:=F) HM.out (fun k hk=>(HFt.out k).2 hk)).low hb1
 have HTX:Hid _:=HT1.out.low (a00 w1 (.cells #[.int .i64 (p:Int),.string text] 109))
 have HBox:Hid ((w1.alloc (.cells #[.int .i64 (p:Int),.string text] 109)).cell? ⟨w1.heap.size,0,none⟩=some (.int .i64 (p:Int))∧(w1.alloc (.cells #[.int .i64 (p:Int),.string text] 109)).cell? ⟨w1.heap.size,1,none⟩=some (.string text)):=by
  have e:∀ i,(w1.alloc (.cells #[.int .i64 (p:Int),.string text] 109)).cell? ⟨w1.heap.size,i,none⟩=#[Value.int .i64 (p:Int),.string text][i]?:=fun i=>cell_of_row _ _ i _ _ (0,0) (heap_alloc_new _ _)
  exact ⟨e 0,e 1⟩
 have HLt:Hid (∀ k,M.foot mb g.n k→k<w1.heap.size):=fun k hk=>HT1.out.msh.lt hk
 clear hb1 HP
 go_wp2_with fail
 refine (aa9 mb M.wa M.wcap x.bag k hkl (by omega) _ HTX.out.msh.way).mono ?_
 rintro e w2 ⟨rfl,hl⟩
 obtain ⟨M2,hT2,eg2,ec2,en2,eF2⟩:=HTX.out.laid hl
 have HT2:Hid _:=hT2
 have hz:¬ (w1.heap.size=mb∨onB M.wa w1.heap.size):=fun hc=>by
  have:=HLt.out w1.heap.size (by
   rcases hc with h | h
   ·exact Or.inl h
   ·exact Or.inr (Or.inr (Or.inl h)))
  omega
 have b0:=hl.rest.cell HBox.out.1 hz
 have b1:=hl.rest.cell HBox.out.2 hz
 have c0:=hT2.msh.c0
 obtain ⟨m0,m1⟩:=hT2.msh.mem p hp
 have hpi:(p:Int)<(g.n:Int):=by omega
 have HHy:Hid _:=fun y (hy:Below w2.heap.size w2 y)=>HHe.out y (M2.nb p) (M2.Fp p) ((HW.out.alike hT2.rest (fun k hk hc=>by have:=HF.out k hc;omega)).low hy) (fun j hj=>by
  rcases hT2.own j (Or.inr (Or.inr (Or.inr ⟨p,hp,hj⟩))) with h1 | h1
  ·exact HF.out j h1
  ·have h2:=HF.out mb ((HFt.out mb).2 (Or.inl rfl))
   have h3:=HM.out.lt (Or.inl rfl)
   omega) ((hT2.msh.low hy).node p hp)
 have HOff:Hid (¬ M2.Fp p M2.gm∧¬ M2.Fp p w1.heap.size):=⟨fun hc=>(hT2.msh.sep p hp _ hc).2.1 rfl,fun hc=>by
  rw [eF2] at hc
  have:=HLt.out _ (Or.inr (Or.inr (Or.inr ⟨p,hp,hc⟩)))
  omega⟩
 have hfz:=a0h hT2.msh.mty (p * 2+1)
 clear hl hT2 eg2 ec2 en2 eF2 hz
 go_wp2_with fail
 go_quiet (fail)
 have HBY:Hid (Below w2.heap.size w2 (w2.drewN nq)):=below_drewN (Below.refl _ _) nq
 have HTY:Hid _:=HT2.out.low HBY.out
 have n0:(w2.drewN nq).cell? ⟨M2.gm,p * 2,none⟩=some (.pointer (some ⟨M2.nb p,0,none⟩)):=m0
 have n1:(w2.drewN nq).cell? ⟨M2.gm,p * 2+1,none⟩=some (.int .i64 (x.ref p)):=m1
 have nb:(w2.drewN nq).cell? ⟨w1.heap.size,1,none⟩=some (.string text):=b1
 have nf:(w2.drewN nq).frozen? ⟨M2.gm,p * 2+1,none⟩=false:=hfz
 clear m0 m1 b0 b1 c0 hfz
 generalize w2.drewN nq=Y at *
 have hgz:M2.gm<Y.heap.size:=lt_of_cell n0
 have href:=HX.out.ref p hp
 have hwr:IntKind.i64.wrap (x.ref p+1)=x.ref p+1:=by rw [IntKind.wrap_i64];omega
 have HRP:Hid (R.ps.length≤8):=HRp.out
 by_cases hK:R.k=0
 ·go_wp2_with fail
  go_region_held3 (fun y=>y.cell? ⟨M2.gm,p * 2,none⟩=some (.pointer (some ⟨M2.nb p,0,none⟩))∧y.cell? ⟨w1.heap.size,1,none⟩=some (.string text))
   (first|(exact ⟨n0,nb⟩)|(exact ⟨HD.out.rest.cell (show Y.drew.cell? _=_ from n0) HOff.out.1,HD.out.rest.cell (show Y.drew.cell? _=_ from nb) HOff.out.2⟩) | go_keep)
   (first|(go_at_call 96;refine (show Calls _ _ _ _ _ from HHy.out _ HBY.out.drew).mono ?_;rintro e w3 ⟨v,er,rfl,her,hd⟩;have HD:Hid _:=hd;have hni:=al4 her hK;subst hni;have HE:Hid _:=her;obtain ⟨av,cv,hsh⟩:=a01 hd.pks.own;subst hsh;clear her hd))
  have HTD:Hid _:=HTY.out.low (Below.refl Y.heap.size Y).drew
  obtain ⟨M3,hT3,eg3,ew3,ec3,en3⟩:=HTD.out.noded hp HD.out
  have HT3:Hid _:=hT3
  have HNe:Hid (∀ j,(Value.slice av R.ps.length cv).ownBlock=some j→¬ onB M3.wa j):=fun j hj hc=>by
   have h1:=HD.out.pks.block j hj
   rw [ew3] at hc
   have h2:=HTD.out.msh.way.lt hc
   omega
  have HEr:Hid ((x.bag.eraseIdx k).length≤x.bag.length):=List.length_eraseIdx_le _ _
  rename_i hHeld
  clear hHeld hT3 eg3 ew3 ec3 en3 n0 n1 nb nf
  go_wp2_with fail
  refine (a7d mb M3.wa M3.wcap (x.bag.eraseIdx k) R.ps _ Y.drew.heap.size w3 HT3.out.msh.way HD.out.pks HNe.out (by have:=HRP.out;have:=HEr.out;omega)).mono ?_
  rintro e w4 ⟨rfl,hl⟩
  obtain ⟨M4,hT4,_⟩:=HT3.out.laid hl
  have HT4:Hid _:=hT4
  clear hl hT4
  go_wp2_with fail
  go_ret
  refine ⟨_,rfl,HE.out,?_⟩
  rw [HXE.out,if_pos hK]
  exact HT4.out.done
 ·go_wp2_with fail
  go_region_held3 (fun y=>y.cell? ⟨M2.gm,p * 2,none⟩=some (.pointer (some ⟨M2.nb p,0,none⟩))∧y.cell? ⟨w1.heap.size,1,none⟩=some (.string text))
   (first|(exact ⟨n0,nb⟩)|(exact ⟨HD.out.rest.cell (show Y.drew.cell? _=_ from n0) HOff.out.1,HD.out.rest.cell (show Y.drew.cell? _=_ from nb) HOff.out.2⟩) | go_keep)
   (first|(go_at_call 96;refine (show Calls _ _ _ _ _ from HHy.out _ HBY.out.drew).mono ?_;rintro e w3 ⟨v,er,rfl,her,hd⟩;have HD:Hid _:=hd;obtain ⟨ety,ev,hni⟩:=az6 her hK;subst hni;have HE:Hid _:=her;obtain ⟨av,cv,hsh⟩:=a01 hd.pks.own;subst hsh;clear her hd))
  have HTD:Hid _:=HTY.out.low (Below.refl Y.heap.size Y).drew
  obtain ⟨M3,hT3,eg3,ew3,ec3,en3⟩:=HTD.out.noded hp HD.out
  have HT3:Hid _:=hT3
  have HNe:Hid (∀ j,(Value.slice av R.ps.length cv).ownBlock=some j→¬ onB M3.wa j):=fun j hj hc=>by
   have h1:=HD.out.pks.block j hj
   rw [ew3] at hc
   have h2:=HTD.out.msh.way.lt hc
   omega
  have HEr:Hid ((x.bag.eraseIdx k).length≤x.bag.length):=List.length_eraseIdx_le _ _
  have o1:w3.cell? ⟨M2.gm,p * 2+1,none⟩=some (.int .i64 (x.ref p)):=HD.out.rest.cell (show Y.drew.cell? _=_ from n1) HOff.out.1
  have of:w3.frozen? ⟨M2.gm,p * 2+1,none⟩=false:=HD.out.rest.frozen (show M2.gm<Y.drew.heap.size from hgz) (show Y.drew.frozen? _=_ from nf) HOff.out.1
  have HTR:Hid _:=HT3.out.refused hp
  rw [eg3] at HTR
  have HPR:Hid (Pks (w3.setCell ⟨M2.gm,p * 2+1,none⟩ (.int .i64 (x.ref p+1))) Y.drew.heap.size (.slice av R.ps.length cv) R.ps):=HD.out.pks.alike (Alike.setCell _ _ _) (fun j h1 _ e=>by
   have e':j=M2.gm:=e
   have:Y.drew.heap.size=Y.heap.size:=rfl
   omega)
  rename_i hHeld
  clear hHeld hT3 eg3 ew3 ec3 en3 n0 n1 nb nf
  go_wp2_with fail
  refine (a7d mb M3.wa M3.wcap (x.bag.eraseIdx k) R.ps _ Y.drew.heap.size _ HTR.out.msh.way HPR.out HNe.out (by have:=HRP.out;have:=HEr.out;omega)).mono ?_
  rintro e w4 ⟨rfl,hl⟩
  obtain ⟨M4,hT4,_⟩:=HTR.out.laid hl
  have HT4:Hid _:=hT4
  clear hl hT4
  go_wp2_with fail
  go_ret
  refine ⟨_,rfl,HE.out,?_⟩
  rw [HXE.out,if_neg hK]
  exact HT4.out.done
def NS.new (g:Gr):NS:=⟨List.replicate g.n (List.replicate g.n 0),[],[]⟩
theorem Tryz.b0y:(Tryz.prog.info? 34).map (fun i=>(i.zero,i.size,i.bytes))=some (some (.slice none 0 0),1,24):=by kernel_rfl
structure VB (wr:World) (gv n k:Nat) (rows:List Nat):Prop where
 row:∀ q,q<k→wr.cell? ⟨gv,q,none⟩=some (.slice (some ⟨rows.getD q 0,0,none⟩) n n)
 more:∀ q,q<n→∃ v,wr.cell? ⟨gv,q,none⟩=some v
 ty:∃ cur,wr.heap[gv]?=some (.cells cur 34 (0,0))
 each:∀ q,q<k→RowI wr (rows.getD q 0) (List.replicate n 0)
 len:rows.length=k
 gt:∀ r∈rows,gv<r∧r<wr.heap.size
 nodup:rows.Nodup
theorem VB.more1 {wr w1:World} {gv n k:Nat} {rows:List Nat} (h:VB wr gv n k rows) (hk:k<n) (hb:Below wr.heap.size wr w1) (hr:RowI w1 wr.heap.size (List.replicate n 0)):VB (w1.setCell ⟨gv,k,none⟩ (.slice (some ⟨wr.heap.size,0,none⟩) n n)) gv n (k+1) (rows++[wr.heap.size]):=by
 have hgv:gv<wr.heap.size:=by obtain ⟨c,e⟩:=h.ty;exact lt_of_some e
 have hget:∀ q,q<k→(rows++[wr.heap.size]).getD q 0=rows.getD q 0:=fun q hq=>by
  rw [List.getD_eq_getElem?_getD,List.getD_eq_getElem?_getD,List.getElem?_append_left (by rw [h.len];exact hq)]
 have hgk:(rows++[wr.heap.size]).getD k 0=wr.heap.size:=by
  rw [List.getD_eq_getElem?_getD,List.getElem?_append_right (by rw [h.len];exact Nat.le_refl _),h.len,Nat.sub_self]
  rfl
 have hcell:∀ q,w1.cell? ⟨gv,q,none⟩=wr.cell? ⟨gv,q,none⟩:=fun q=>hb.cell (p:=⟨gv,q,none⟩) hgv
 have hmem:∀ q,q<k→rows.getD q 0∈rows:=fun q hq=>by
  rw [List.getD_eq_getElem?_getD,List.getElem?_eq_getElem (by rw [h.len];exact hq)]
  exact List.getElem_mem _
 have ha:=Alike.setCell w1 ⟨gv,k,none⟩ (.slice (some ⟨wr.heap.size,0,none⟩) n n)
 have hsame:(w1.setCell ⟨gv,k,none⟩ (.slice (some ⟨wr.heap.size,0,none⟩) n n)).cell? ⟨gv,k,none⟩=some (.slice (some ⟨wr.heap.size,0,none⟩) n n):=by
  obtain ⟨v,hv⟩:=h.more k hk
  exact World.cell?_setCell_same _ _ _ ((hcell k).trans hv)
 have hoth:∀ q,q≠k→(w1.setCell ⟨gv,k,none⟩ (.slice (some ⟨wr.heap.size,0,none⟩) n n)).cell? ⟨gv,q,none⟩=wr.cell? ⟨gv,q,none⟩:=fun q hq=>(World.cell?_setCell_other _ _ _ _ (by intro h;simp only [Addr.mk.injEq] at h;omega)).trans (hcell q)
 have hsz:(w1.setCell ⟨gv,k,none⟩ (.slice (some ⟨wr.heap.size,0,none⟩) n n)).heap.size=w1.heap.size:=by simp [World.setCell]
 refine ⟨fun q hq=>?_,fun q hq=>?_,?_,fun q hq=>?_,by rw [List.length_append,h.len];rfl,fun r hr'=>?_,?_⟩
 ·by_cases e:q=k
  ·subst e
   rw [hsame,hgk]
  ·rw [hoth q e,hget q (by omega)]
   exact h.row q (by omega)
 ·by_cases e:q=k
  ·subst e
   exact ⟨_,hsame⟩
  ·rw [hoth q e]
   exact h.more q hq
 ·obtain ⟨cur,e⟩:=h.ty
  exact ⟨_,heap_setCell_same w1 gv k cur _ _ ((hb.block gv hgv).trans e)⟩
 ·by_cases e:q=k
  ·subst e
   rw [hgk]
   exact (ha.block _ hr.lt (by show ¬ wr.heap.size=gv;omega)).trans hr
  ·rw [hget q (by omega)]
   have h1:=h.each q (by omega)
   have h2:=h.gt _ (hmem q (by omega))
   have h3:RowI w1 (rows.getD q 0) (List.replicate n 0):=(hb.block _ h2.2).trans h1
   exact (ha.block _ h3.lt (by show ¬ rows.getD q 0=gv;omega)).trans h3
 ·rw [hsz]
  have:=hr.lt
  rcases List.mem_append.1 hr' with h' | h'
  ·have:=h.gt r h'
   omega
  ·rw [List.mem_singleton.1 h']
   omega
 ·refine List.nodup_append.2 ⟨h.nodup,by simp,fun a ha' b hb'=>?_⟩
  rw [List.mem_singleton.1 hb']
  have:=h.gt a ha'
  omega
set_option maxHeartbeats 1000000 in
theorem al8 (n:Nat) (W B L:Int) (hn:n≤8) (w:World):Calls Tryz.prog 91 #[.agg #[.int .i64 n,.int .i64 W,.int .i64 B,.int .i64 L]] w fun e w'=>(∃ gv rows,e=.returned (.slice (some ⟨gv,0,none⟩) n n)∧VB w' gv n n rows∧w.heap.size≤gv)∧Below w.heap.size w w':=by
 obtain ⟨i0,hi,hz0,hz1,hz2⟩:=info_parts Tryz.b0y
 obtain ⟨j0,hj,hy0,hy1,hy2⟩:=info_parts Tryz.a3d
 go_enter Tryz.func91,Tryz.ntmps91
 go_wp2_with (at_make;refine wpList_make_full _ rfl (.tmp 6) (.tmp 6) 71 rfl (w.heap.size+1) 34 i0 (.slice none 0 0) 1 Tryz.underlying71 hi hz0 hz1 .i64 .i64 _ _ n rfl rfl ?m1 ?m2 ?m3 ?m4 ?m5 ?_)
 case m1=>rfl
 case m2=>rfl
 case m3=>rw [hz2];omega
 case m4=>unfold maxLen;omega
 case m5=>simp
 intro w1 hown1 hgrow1
 have HB1:Hid (Below w.heap.size w w1):=(a00 _ _).trans (((Below.refl _ _).grown hgrow1 (Nat.le_refl _) (fun k hk=>by cases hk)).mono (by simp))
 have HV1:Hid (VB w1 (w.heap.size+1) n 0 []):=by
  rcases hown1.2 with ⟨h',_⟩ | ⟨g',cap',cur,h',_,hg,_,_,hcs,htake⟩
  ·simp at h'
  ·simp only [Value.slice.injEq,Option.some.injEq,Addr.mk.injEq,and_true,true_and] at h'
   obtain ⟨h1,rfl⟩:=h'
   have hg':w1.heap[w.heap.size+1]?=some (.cells cur 34 (0,0)):=by rw [←h1] at hg;simpa using hg
   refine ⟨fun q hq=>absurd hq (Nat.not_lt_zero _),fun q hq=>?_,⟨cur,hg'⟩,fun q hq=>absurd hq (Nat.not_lt_zero _),rfl,fun r hr=>(by cases hr),List.nodup_nil⟩
   rw [cell_of_row w1 _ q cur _ (0,0) hg']
   exact ⟨cur[q]'(by omega),Array.getElem?_eq_getElem _⟩
 have HC0:Hid (w1.cell? ⟨w.heap.size,0,none⟩=some (.int .i64 (n:Int))):=(((Below.refl _ _).grown hgrow1 (Nat.le_refl _) (fun k hk=>by cases hk)).cell (p:=⟨w.heap.size,0,none⟩) (by simp)).trans (by rw [cell_of_row _ _ 0 _ _ (0,0) (heap_alloc_new _ _)];rfl)
 clear hown1 hgrow1
 go_wp2_with fail
 go_loopw [10] (fun c wr=>∃ k rows,k≤n∧c=.int .i64 (k:Nat)∧VB wr (w.heap.size+1) n k rows∧Below w.heap.size w wr∧wr.cell? ⟨w.heap.size,0,none⟩=some (.int .i64 (n:Int))) (fun c _=>n-(intOf c).toNat)
 case atStart=>exact ⟨0,[],Nat.zero_le _,rfl,HV1.out,HB1.out,HC0.out⟩
 case round =>
  obtain ⟨k,rows,hk,rfl,hv,hb,hc0⟩:=hrel
  have HV:Hid _:=hv
  have HB:Hid _:=hb
  have hsz:=hb.size
  clear hv hb
  by_cases hlt:k<n
  ·have hki:(k:Int)<(n:Int):=by omega
   obtain ⟨u,hu⟩:=HV.out.more k hlt
   have hfz:=a0h HV.out.ty k
   go_wp2_with (at_make;refine wpList_make_full _ rfl (.tmp 16) (.tmp 16) 34 rfl wr.heap.size 3 j0 (.int .i64 0) 1 Tryz.underlying34 hj hy0 hy1 .i64 .i64 _ _ n rfl rfl ?m1 ?m2 ?m3 ?m4 ?m5 ?_)
   case m1=>rfl
   case m2=>rfl
   case m3=>rw [hy2];omega
   case m4=>unfold maxLen;omega
   case m5=>exact Nat.le_refl _
   intro w2 hown2 hgrow2
   rw [a9j] at hown2
   have hb2:Below wr.heap.size wr w2:=(Below.refl _ _).grown hgrow2 (Nat.le_refl _) (fun k hk=>by cases hk)
   have hr2:RowI w2 wr.heap.size (List.replicate n 0):=by simpa using a5g hown2
   have HV2:Hid _:=HV.out.more1 hlt hb2 hr2
   have hgl:w.heap.size+1<wr.heap.size:=by obtain ⟨c,e⟩:=HV.out.ty;exact lt_of_some e
   have hu2:=(hb2.cell (p:=⟨w.heap.size+1,k,none⟩) hgl).trans hu
   have hf2:=(hb2.frozen (p:=⟨w.heap.size+1,k,none⟩) hgl).trans hfz
   have HB2:Hid (Below w.heap.size w (w2.setCell ⟨w.heap.size+1,k,none⟩ (.slice (some ⟨wr.heap.size,0,none⟩) n n))):=(bthen HB.out hb2).setCell (by show w.heap.size≤w.heap.size+1;omega) _
   have HC2:Hid ((w2.setCell ⟨w.heap.size+1,k,none⟩ (.slice (some ⟨wr.heap.size,0,none⟩) n n)).cell? ⟨w.heap.size,0,none⟩=some (.int .i64 (n:Int))):=(Alike.setCell _ _ _).cell ((hb2.cell (p:=⟨w.heap.size,0,none⟩) (by show w.heap.size<_;omega)).trans hc0) (by show ¬ w.heap.size=w.heap.size+1;omega)
   clear hown2 hgrow2 hb2 hr2 hu hfz hc0
   go_wp2_with fail
   go_roundw
   case rel=>exact ⟨k+1,_,by omega,by go_num,HV2.out,HB2.out,HC2.out⟩
   case measure=>simp [intOf];omega
  ·have hkn:k=n:=by omega
   subst hkn
   go_wp2_with fail
   go_ret
   exact ⟨⟨_,rows,rfl,HV.out,by omega⟩,HB.out⟩
end Go.Proofs.YtabecbjfamphbaaGreatDoor
