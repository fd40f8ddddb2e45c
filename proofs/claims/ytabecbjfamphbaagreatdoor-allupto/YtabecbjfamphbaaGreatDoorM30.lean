/- A part of the proof. -/
import Derived.Test.YtabecbjfamphbaaGreatDoorM29
import Derived.Deep.Cut
namespace Go.Proofs.YtabecbjfamphbaaGreatDoor
open Go.RowKit Go.Stop Go.Extern
set_option maxRecDepth 100000
set_option maxHeartbeats 4000000
structure RefAt (w:World) (b:Nat) (g:Gr) (p:Nat) (s:NS) (m:Nat) (F:Nat→Prop):Prop where
 how:∃ r G,RMem w b g p r G∧Sim g p s r∧G.fs.length≤m∧G.ss.length≤m∧∀ k,G.foot b k→F k
theorem RefAt.alike {w w':World} {b:Nat} {g:Gr} {p:Nat} {s:NS} {m:Nat} {F E:Nat→Prop} (h:RefAt w b g p s m F) (ha:Alike w w' E) (hE:∀ k,F k→¬ E k):RefAt w' b g p s m F:=by
 obtain ⟨r,G,h1,h2,h3,h4,h5⟩:=h
 exact ⟨r,G,h1.alike ha (fun k hk=>hE k (h5 k hk)),h2,h3,h4,h5⟩
theorem RefAt.low {w w':World} {b:Nat} {g:Gr} {p:Nat} {s:NS} {m:Nat} {F:Nat→Prop} (h:RefAt w b g p s m F) (hb:Below w.heap.size w w'):RefAt w' b g p s m F:=h.alike (Alike.of_below hb (fun _=>False)) (fun _ _ h=>h)
theorem Sim.short {g:Gr} {p:Nat} {s:NS} {r:RN} (h:Sim g p s r) (hg:g.Ok) (hp:p<g.n):r.hd.length≤524280:=by
 have h1:=h.ok.clk.short hg hp
 rw [h.mid.hs] at h1
 have h2:(r.listed r.hd).length=r.hd.length:=by
  have h3:=h.mid.hin
  unfold RN.listed
  have:∀ (l:List Nat),(∀ i∈l,i<r.ws.length)→(l.filterMap (fun i=>(r.ws[i]?).map Fm.word)).length=l.length:=fun l=>by
   induction l with
   | nil=>exact fun _=>rfl
   | cons a l ih =>
    intro hl
    have ha:a<r.ws.length:=hl a (List.mem_cons_self ..)
    rw [List.filterMap_cons,List.getElem?_eq_getElem ha]
    simp only [Option.map_some,List.length_cons]
    rw [ih (fun i hi=>hl i (List.mem_cons_of_mem _ hi))]
  exact this _ h3
 omega
structure RDid (w w':World) (b:Nat) (g:Gr) (p:Nat) (F:Nat→Prop) (s:NS) (m:Nat) (v:Value) (ps:List Pk):Prop where
 node:∃ F',RefAt w' b g p s m F'∧∀ k,F' k→F k∨w.heap.size≤k
 rest:Alike w w' F
 pks:Pks w' w.heap.size v ps
theorem RefAt.more {w:World} {b:Nat} {g:Gr} {p:Nat} {s:NS} {m m':Nat} {F:Nat→Prop} (h:RefAt w b g p s m F) (hm:m≤m'):RefAt w b g p s m' F:=by
 obtain ⟨r,G,h1,h2,h3,h4,h5⟩:=h
 exact ⟨r,G,h1,h2,Nat.le_trans h3 hm,Nat.le_trans h4 hm,h5⟩
theorem RDid.none {w w':World} {b:Nat} {g:Gr} {p:Nat} {s:NS} {m:Nat} {F:Nat→Prop} (h:RefAt w b g p s m F) (hb:Below w.heap.size w w'):RDid w w' b g p F s (m+1) (.slice none 0 0) []:=
 ⟨⟨F,(h.low hb).more (Nat.le_succ _),fun _ h=>Or.inl h⟩,Alike.of_below hb _,Pks.nil _ _⟩
theorem ar9 {w:World} {base n:Nat} {v:Value} {vs:List Int} (hn:0<n) (h:w.ownsRow base 3 1 v n (irow vs)):∃ ga c,v=.slice (some ⟨ga,0,none⟩) n c∧base≤ga∧(∃ cur,w.heap[ga]?=some (.cells cur 3 (0,0)))∧Ints w (some ⟨ga,0,none⟩) n vs:=by
 rcases h.2 with ⟨_,h0⟩ | ⟨gh,cap',cur,he,hb,hh,hr⟩
 ·omega
 ·subst he
  exact ⟨_,_,rfl,hb,⟨cur,hh⟩,a3b h⟩
theorem av0 (b:Nat) (g:Gr) (p:Nat) (s:NS) (m:Nat) (F:Nat→Prop) (body:ByteArray) (hg:g.Ok) (hp:p<g.n) (hm:m≤100000000) (w:World) (h:RefAt w b g p s m F) :
  Calls Tryz.prog 108 #[.pointer (some ⟨b,0,none⟩),.string body] w fun e w'=>∃ v,e=.returned (.tuple #[.int .i64 (s.say g p body).q,v,.int .i64 ((s.say g p body).k:Int)])∧RDid w w' b g p F (s.say g p body).s (m+1) v (s.say g p body).ps:=by
 have HR0:Hid (RefAt w b g p s m F):=h
 obtain ⟨r,G,hM,hS,hf1,hs1,hft⟩:=h.how
 have hn:=hg.n
 have hW8:=hg.W
 have hhd:=hS.short hg hp
 have HCt:Hid (Calls Tryz.prog 166 #[.pointer (some ⟨b,0,none⟩),.int .i64 (p:Int)] w fun e w'=>e=.returned (.int .i64 (vw s.vs p p))∧Below w.heap.size w w'):=by
  rw [←hS.mid.cnt hp]
  exact a1y b g p r G p (by omega) w hM.nd
 have HLo:Hid (∀ y,Below w.heap.size w y→Calls Tryz.prog 167 #[.pointer (some ⟨b,0,none⟩),.int .i64 (p:Int)] y fun e w'=>e=.returned (.int .i64 (g.low s.vs p))∧Below y.heap.size y w'):=fun y hy=>by
  rw [←hS.mid.low hp hp]
  exact as9 b g p r G p hp hn.2 (by omega) (by omega) (by omega) y (hM.nd.low hy)
 have HCl:Hid (∀ y,Below w.heap.size w y→Calls Tryz.prog 116 #[.pointer (some ⟨b,0,none⟩)] y fun e w'=>(∃ v,e=.returned v∧w'.ownsRow y.heap.size 3 1 v g.n (irow (s.vs.getD p [])))∧Below y.heap.size y w'):=fun y hy=>by
  rw [hS.clock hp]
  exact a6q b g p r G hn.2 (by omega) y (hM.nd.low hy)
 have hbd:=hS.ok.clk.bd p p hp hp
 have hlb:=hS.ok.clk.b1m hg p hp
 have hL:=hg.L
 have HSK:Hid (s.sayK g p body.size=if g.B<(body.size:Int) then 2 else if g.L≤vw s.vs p p then 3 else if g.W≤vw s.vs p p-g.low s.vs p then 4 else 0):=rfl
 have HNo:Hid (∀ k,k≠0→s.sayK g p body.size=k→s.say g p body=⟨k,0,[],s⟩):=fun k hk e=>by
  unfold NS.say
  rw [if_neg (by rw [e];exact hk),e]
 have HYes:Hid (s.sayK g p body.size=0→s.say g p body=⟨0,vw s.vs p p+1,NS.sayL g p (s.word g p body),s.said g p (s.word g p body)⟩):=fun e=>if_pos e
 have HS:Hid (Sim g p s r):=hS
 have HM:Hid (RMem w b g p r G):=hM
 have HFt:Hid (∀ k,G.foot b k→F k):=hft
 have HWd:Hid (s.word g p body=⟨p,vw s.vs p p+1,g.low s.vs p,s.vs.getD p [],body⟩):=rfl
 have c4:=hM.nd.c4
 clear h hS hM hft
 generalize s.sayK g p body.size=sk at *
 generalize s.say g p body=res at *
 obtain ⟨y,hy⟩:∃ y,y=vw s.vs p p:=⟨_,rfl⟩
 obtain ⟨lo,hlo⟩:∃ lo,lo=g.low s.vs p:=⟨_,rfl⟩
 have HY:Hid (y=vw s.vs p p):=hy
 have HLw:Hid (lo=g.low s.vs p):=hlo
 rw [←hy] at HCt hbd HSK HYes HWd
 rw [←hlo] at HLo hlb HSK HWd
 clear hy hlo
 have hwr:IntKind.i64.wrap (y-lo)=y-lo:=by rw [IntKind.wrap_i64];omega
 have hwr1:IntKind.i64.wrap (y+1)=y+1:=by rw [IntKind.wrap_i64];omega
 go_enter Tryz.func108,Tryz.ntmps108
 go_wp2_with fail
 refine (show Calls _ _ _ _ _ from HCt.out).mono ?_
 rintro e w1 ⟨rfl,hb1⟩
 have HB1:Hid (Below w.heap.size w w1):=hb1
 have c4:=(HM.out.low hb1).nd.c4
 clear hb1
 go_wp2_with fail
 refine (show Calls _ _ _ _ _ from HLo.out w1 HB1.out).mono ?_
 rintro e w2 ⟨rfl,hb2⟩
 have HB2:Hid (Below w.heap.size w w2):=bthen HB1.out hb2
 have HM2:Hid (RMem w2 b g p r G):=HM.out.low HB2.out
 clear hb2 c4
 have c1:=HM2.out.nd.c1
 have c2:=HM2.out.nd.c2
 have c3:=HM2.out.nd.c3
 by_cases h1:g.B<(body.size:Int)
 ·have HR:Hid (res=⟨2,0,[],s⟩):=HNo.out 2 (by decide) (HSK.out.trans (if_pos h1))
  go_wp2_with fail
  go_ret3
  rw [HR.out]
  exact ⟨_,rfl,RDid.none HR0.out HB2.out⟩
 ·by_cases h2:g.L≤y
  ·have HR:Hid (res=⟨3,0,[],s⟩):=HNo.out 3 (by decide) (HSK.out.trans ((if_neg h1).trans (if_pos h2)))
   go_wp2_with fail
   go_ret3
   rw [HR.out]
   exact ⟨_,rfl,RDid.none HR0.out HB2.out⟩
  ·by_cases h3:g.W≤y-lo
   ·have HR:Hid (res=⟨4,0,[],s⟩):=HNo.out 4 (by decide) (HSK.out.trans ((if_neg h1).trans ((if_neg h2).trans (if_pos h3))))
    go_wp2_with fail
    go_ret3
    rw [HR.out]
    exact ⟨_,rfl,RDid.none HR0.out HB2.out⟩
   ·have HSk0:Hid (sk=0):=HSK.out.trans ((if_neg h1).trans ((if_neg h2).trans (if_neg h3)))
    have HR:Hid (res=⟨0,y+1,NS.sayL g p (s.word g p body),s.said g p (s.word g p body)⟩):=HYes.out HSk0.out
    have HOk:Hid ((s.word g p body).Ok g):=NS.as3 HS.out.ok hg hp (by omega) (by rw [←HY.out];omega) (by rw [←HY.out,←HLw.out];omega)
    have HSd:Hid (Sim g p (s.said g p (s.word g p body)) { r.with (s.word g p body) with hd:=r.hd++[r.ws.length] }):=HS.out.said hp hg HOk.out rfl rfl (by show vw s.vs p p+1≤_;rw [←HY.out,←HLw.out];omega)
    go_wp2_with fail
    refine (show Calls _ _ _ _ _ from HCl.out w2 HB2.out).mono ?_
    rintro e w3 ⟨⟨v,rfl,ho⟩,hb3⟩
    obtain ⟨ga,cc,hcv,hga,hgt,hci⟩:=ar9 (by omega) ho
    subst hcv
    have HM3:Hid (RMem w3 b g p r G):=HM2.out.low hb3
    have HB3:Hid (Below w.heap.size w w3):=bthen HB2.out hb3
    have HGa:Hid (w.heap.size≤ga):=Nat.le_trans HB2.out.size hga
    have HGn:Hid (∀ k,onB G.ha k→k≠ga):=fun k hk e=>by
     have:=HM2.out.a1k (Or.inr (Or.inr (Or.inl hk)))
     omega
    have HVt:Hid (∃ cur,w3.heap[ga]?=some (.cells cur 3 (0,0))):=hgt
    have HVi:Hid _:=hci
    clear ho hb3 hgt hci c1 c2 c3 hga
    have c4:=HM3.out.nd.c4
    have hal:∀ o,(w3.alloc o).cell? ⟨b,4,none⟩=some (.int .i64 (p:Int)):=fun o=>((a00 w3 o).cell (p:=⟨b,4,none⟩) (lt_of_cell c4)).trans c4
    go_wp2_with fail
    go_region
    have HBx:Hid (Below w3.heap.size w3 (w3.alloc (.cells #[.int .i64 1,.int .i64 (p:Int),.int .i64 (p:Int),.int .i64 (y+1),.int .i64 lo,.slice (some ⟨ga,0,none⟩) g.n cc,.string body] 45)).drew):=(a00 _ _).drew
    have HSv:Hid (Seven w3.heap.size (w3.alloc (.cells #[.int .i64 1,.int .i64 (p:Int),.int .i64 (p:Int),.int .i64 (y+1),.int .i64 lo,.slice (some ⟨ga,0,none⟩) g.n cc,.string body] 45)).drew (.int .i64 1) (.int .i64 (p:Int)) (.int .i64 (p:Int)) (.int .i64 (y+1)) (.int .i64 lo) (.slice (some ⟨ga,0,none⟩) g.n cc) (.string body)):=(a05 w3 (.int .i64 1) (.int .i64 (p:Int)) (.int .i64 (p:Int)) (.int .i64 (y+1)) (.int .i64 lo) (.slice (some ⟨ga,0,none⟩) g.n cc) (.string body) 45).below (Below.refl (w3.heap.size+1) _).drew (by omega)
    generalize (w3.alloc (.cells #[.int .i64 1,.int .i64 (p:Int),.int .i64 (p:Int),.int .i64 (y+1),.int .i64 lo,.slice (some ⟨ga,0,none⟩) g.n cc,.string body] 45)).drew=X at *
    have HBX:Hid (Below w.heap.size w X):=bthen HB3.out HBx.out
    have HMX:Hid (RMem X b g p r G):=HM3.out.low HBx.out
    have HVX:Hid (VecAt X g.n ⟨1,p,p,y+1,lo,some ⟨ga,0,none⟩,cc,s.vs.getD p [],body⟩):=VecAt.low (w:=w3) ⟨HVi.out,by obtain ⟨cur,e⟩:=HVt.out;exact ⟨ga,cur,rfl,e⟩⟩ HBx.out
    clear hal c4
    obtain ⟨s0,s1,s2,s3,s4,s5,s6,sz⟩:=HSv.out
    have c5:=HMX.out.nd.c5
    have fz:=a0h HMX.out.nd.ty 5
    have hbX:b<X.heap.size:=lt_of_cell c5
    have hnb:some b≠(Value.slice G.wa G.fs.length G.wcap).ownBlock:=fun he=>by
     obtain ⟨cur,e⟩:=HMX.out.nd.ty
     obtain ⟨_,e'⟩:=a02 HMX.out.nd.wo.own (a1d HMX.out.nd.wo.own he.symm)
     exact ty_ne e e' (by decide) rfl
    obtain ⟨i0,hi,hz0,hz1,hz2⟩:=info_parts Tryz.a2w
    have hone:∀ u∈([.int .i64 1,.int .i64 (p:Int),.int .i64 (p:Int),.int .i64 (y+1),.int .i64 lo,.slice (some ⟨ga,0,none⟩) g.n cc,.string body]:List Value),u.oneCell'=true:=by
     intro u hu
     simp at hu
     rcases hu with rfl | rfl | rfl | rfl | rfl | rfl<;>rfl
    have HO:Hid (∀ x:World,Below X.heap.size X x→x.ownsRow 0 45 7 (.slice G.wa G.fs.length G.wcap) G.fs.length (frow g.n G.fs)):=fun x hx=>(HMX.out.low hx).nd.wo.own
    go_wp2_with fail
    go_cut [] from 67 (fun wc=>Grew X wc b 5 45 7 G.wa (G.fs.length+1) (frow g.n (G.fs++[⟨1,p,p,y+1,lo,some ⟨ga,0,none⟩,cc,s.vs.getD p [],body⟩])))
    case first =>
     go_region_law
      (refine step_append_lies _ rfl (.tmp 71) (.tmp 73) 147 rfl 0 45 i0 _ 7 80 Tryz.underlying147 hi hz0 hz1 hz2 rfl (by decide) (.slice G.wa G.fs.length G.wcap) G.fs.length (frow g.n G.fs) (by simp [Act.eval]) (HO.out _ (by first | exact (a00 _ _).drew | exact ((Below.refl _ _).drew).trans (a00 _ _) | exact a00 _ _)) ⟨X.heap.size,0,none⟩ 1 1 [.int .i64 1,.int .i64 (p:Int),.int .i64 (p:Int),.int .i64 (y+1),.int .i64 lo,.slice (some ⟨ga,0,none⟩) g.n cc,.string body] (by simp [Act.eval]) rfl (World.news_of_block (heap_alloc_new X _)) hone (by decide) (by unfold maxLen;omega) (by omega) (Nat.zero_le _) _ rfl ?_;intro g' cap' v1 hown hgrow hat hlt2;have HO1:Hid (World.ownsRow v1 0 45 7 (.slice (some ⟨g',0,none⟩) (G.fs.length+1) cap') (G.fs.length+1) (frow g.n G.fs++[.int .i64 1,.int .i64 (p:Int),.int .i64 (p:Int),.int .i64 (y+1),.int .i64 lo,.slice (some ⟨ga,0,none⟩) g.n cc,.string body])):=hown;have HX:Hid (∃ x0:World,∃ H:Nat,Below X.heap.size X x0∧x0.grownBy v1 (Value.slice G.wa G.fs.length G.wcap).ownBlock∧((Value.slice G.wa G.fs.length G.wcap).ownBlock=some g'∨g'=H)∧X.heap.size≤H):=⟨_,_,(by first | exact (a00 _ _).drew | exact ((Below.refl _ _).drew).trans (a00 _ _) | exact a00 _ _),hgrow,hat,(by simp)⟩;have c11:v1.cell? ⟨b,5,none⟩=some (.slice G.wa G.fs.length G.wcap):=(hgrow.cell_far ⟨b,5,none⟩ (by simp;omega) hnb).trans ((Below.cell (B:=X.heap.size) (w:=X) (by first | exact (a00 _ _).drew | exact ((Below.refl _ _).drew).trans (a00 _ _) | exact a00 _ _) (p:=⟨b,5,none⟩) hbX).trans c5);have f11:v1.frozen? ⟨b,5,none⟩=false:=(hgrow.frozen_far ⟨b,5,none⟩ (by simp;omega) hnb).trans ((Below.frozen (B:=X.heap.size) (w:=X) (by first | exact (a00 _ _).drew | exact ((Below.refl _ _).drew).trans (a00 _ _) | exact a00 _ _) (p:=⟨b,5,none⟩) hbX).trans fz);clear hown hgrow hat hlt2)
     all_goals
      go_wp2_with fail
      go_meet
      case rel =>
       obtain ⟨x0,H,hx0,hgr,hat,hH⟩:=HX.out
       rw [a1e]
       exact a9h (i:=5) (u:=.slice G.wa G.fs.length G.wcap) HMX.out.nd.ty (by decide) HMX.out.nd.wo.own hx0 hgr hat hH HO1.out c11
    case rest =>
     obtain ⟨Y,hY⟩:∃ Y,Y=wc:=⟨_,rfl⟩
     subst hY
     have hG2:Grew X Y b 5 45 7 G.wa (G.fs.length+1) (frow g.n (G.fs++[⟨1,p,p,y+1,lo,some ⟨ga,0,none⟩,cc,s.vs.getD p [],body⟩])):=hcut
     have HAl:Hid (Alike X Y F):=(Alike.refl X _).trans hG2.rest (fun k _ hk=>HFt.out k (hk.elim Or.inl (fun h=>Or.inr (Or.inl h))))
     have HWd2:Hid _:=HMX.out.word hG2 rfl HVX.out (fun k hk hs=>by obtain ⟨off,hk⟩:=hk;cases hk;exact HGn.out _ hs rfl)
     have HS2:Hid (Seven w3.heap.size Y (.int .i64 1) (.int .i64 (p:Int)) (.int .i64 (p:Int)) (.int .i64 (y+1)) (.int .i64 lo) (.slice (some ⟨ga,0,none⟩) g.n cc) (.string body)):=HSv.out.alike hG2.rest (fun hor=>by
      have h1:=HM3.out.a1k (k:=w3.heap.size) (hor.elim Or.inl (fun h=>Or.inr (Or.inl h)))
      omega)
     clear hcut hG2 c5 fz hnb HO hone s0 s1 s2 s3 s4 s5 s6 sz hi hz0 hz1 hz2
     go_wp2_with fail
     obtain ⟨G2,hM2',hfs2,hss2,hha2,hft2⟩:=HWd2.out
     have HHa2:Hid (G2.ha=G.ha):=hha2
     have HMY:Hid (RMem Y b g p (r.with (Fr.fm ⟨1,p,p,y+1,lo,some ⟨ga,0,none⟩,cc,s.vs.getD p [],body⟩)) G2):=hM2'
     have HFs2:Hid (G2.fs=G.fs++[⟨1,p,p,y+1,lo,some ⟨ga,0,none⟩,cc,s.vs.getD p [],body⟩]):=hfs2
     have HSs2:Hid (G2.ss=G.ss):=hss2
     have HFt2:Hid (∀ k,G2.foot b k→G.foot b k∨onB (some ⟨ga,0,none⟩) k∨X.heap.size≤k):=hft2
     have c5:Y.cell? ⟨b,5,none⟩=some (.slice G2.wa (G.fs.length+1) G2.wcap):=by
      have:=hM2'.nd.c5
      rw [hfs2,List.length_append] at this
      exact this
     have c6:Y.cell? ⟨b,6,none⟩=some (.slice G2.ha r.hd.length G2.hcap):=hM2'.nd.c6
     have fz:=a0h hM2'.nd.ty 6
     have hbX:b<Y.heap.size:=lt_of_cell c6
     have hnb:some b≠(Value.slice G2.ha r.hd.length G2.hcap).ownBlock:=fun he=>by
      obtain ⟨cur,e⟩:=HMY.out.nd.ty
      obtain ⟨_,e'⟩:=a02 HMY.out.nd.ho (a1d HMY.out.nd.ho he.symm)
      exact ty_ne e e' (by decide) rfl
     obtain ⟨i0,hi,hz0,hz1,hz2⟩:=info_parts Tryz.a3d
     have hone:∀ u∈([.int .i64 (G.fs.length:Int)]:List Value),u.oneCell'=true:=by
      intro u hu
      simp at hu
      rcases hu with rfl
      rfl
     have HO:Hid (∀ x:World,Below Y.heap.size Y x→x.ownsRow 0 3 1 (.slice G2.ha r.hd.length G2.hcap) r.hd.length (hrow r.hd)):=fun x hx=>(HMY.out.low hx).nd.ho
     have hwl:IntKind.i64.wrap (G.fs.length:Int)=(G.fs.length:Int):=by rw [IntKind.wrap_i64];omega
     clear hM2' hfs2 hss2 hft2 hha2
     go_cut [] from 77 (fun wc=>Grew Y wc b 6 3 1 G2.ha (r.hd.length+1) (hrow (r.hd++[G.fs.length])))
     case first =>
      go_region_law
       (refine step_append_lies _ rfl (.tmp 81) (.tmp 88) 34 rfl 0 3 i0 _ 1 8 Tryz.underlying34 hi hz0 hz1 hz2 rfl (by decide) (.slice G2.ha r.hd.length G2.hcap) r.hd.length (hrow r.hd) (by simp [Act.eval]) (HO.out _ (by first | exact (a00 _ _).drew | exact ((Below.refl _ _).drew).trans (a00 _ _) | exact a00 _ _)) ⟨Y.heap.size,0,none⟩ 1 1 [.int .i64 (G.fs.length:Int)] (by simp [Act.eval]) rfl (World.news_of_block (heap_alloc_new Y _)) hone (by decide) (by unfold maxLen;omega) (by omega) (Nat.zero_le _) _ rfl ?_;intro g' cap' v1 hown hgrow hat hlt2;have HO1:Hid (World.ownsRow v1 0 3 1 (.slice (some ⟨g',0,none⟩) (r.hd.length+1) cap') (r.hd.length+1) (hrow r.hd++[.int .i64 (G.fs.length:Int)])):=hown;have HX:Hid (∃ x0:World,∃ H:Nat,Below Y.heap.size Y x0∧x0.grownBy v1 (Value.slice G2.ha r.hd.length G2.hcap).ownBlock∧((Value.slice G2.ha r.hd.length G2.hcap).ownBlock=some g'∨g'=H)∧Y.heap.size≤H):=⟨_,_,(by first | exact (a00 _ _).drew | exact ((Below.refl _ _).drew).trans (a00 _ _) | exact a00 _ _),hgrow,hat,(by simp)⟩;have c11:v1.cell? ⟨b,6,none⟩=some (.slice G2.ha r.hd.length G2.hcap):=(hgrow.cell_far ⟨b,6,none⟩ (by simp;omega) hnb).trans ((Below.cell (B:=Y.heap.size) (w:=Y) (by first | exact (a00 _ _).drew | exact ((Below.refl _ _).drew).trans (a00 _ _) | exact a00 _ _) (p:=⟨b,6,none⟩) hbX).trans c6);have f11:v1.frozen? ⟨b,6,none⟩=false:=(hgrow.frozen_far ⟨b,6,none⟩ (by simp;omega) hnb).trans ((Below.frozen (B:=Y.heap.size) (w:=Y) (by first | exact (a00 _ _).drew | exact ((Below.refl _ _).drew).trans (a00 _ _) | exact a00 _ _) (p:=⟨b,6,none⟩) hbX).trans fz);clear hown hgrow hat hlt2)
      all_goals
       go_wp2_with fail
       go_meet
       case rel =>
        obtain ⟨x0,H,hx0,hgr,hat,hH⟩:=HX.out
        rw [a5k]
        exact a9h (i:=6) (u:=.slice G2.ha r.hd.length G2.hcap) HMY.out.nd.ty (by decide) HMY.out.nd.ho hx0 hgr hat hH HO1.out c11
     case rest =>
      obtain ⟨Z,hZ⟩:∃ Z,Z=wc:=⟨_,rfl⟩
      subst hZ
      have hG2:Grew Y Z b 6 3 1 G2.ha (r.hd.length+1) (hrow (r.hd++[G.fs.length])):=hcut
      have HAl2:Hid (Alike Y Z (fun k=>G2.foot b k)):=(Alike.refl Y _).trans hG2.rest (fun k _ hk=>hk.elim Or.inl (fun h=>Or.inr (Or.inr (Or.inl h))))
      have HWd3:Hid _:=HMY.out.hears (i:=G.fs.length) hG2 (by rw [HFs2.out];simp)
      have HS3:Hid (Seven w3.heap.size Z (.int .i64 1) (.int .i64 (p:Int)) (.int .i64 (p:Int)) (.int .i64 (y+1)) (.int .i64 lo) (.slice (some ⟨ga,0,none⟩) g.n cc) (.string body)):=HS2.out.alike hG2.rest (fun hor=>by
       rcases hor with h | h
       ·have h1:=HM3.out.a1k (k:=w3.heap.size) (Or.inl h)
        omega
       ·rw [HHa2.out] at h
        have h1:=HM3.out.a1k (k:=w3.heap.size) (Or.inr (Or.inr (Or.inl h)))
        omega)
      clear hcut hG2 c5 c6 fz hnb HO hone hi hz0 hz1 hz2
      go_wp2_with fail
      obtain ⟨G3,hM3',hfs3,hss3,hft3⟩:=HWd3.out
      have HMZ:Hid (RMem Z b g p { r.with (Fr.fm ⟨1,p,p,y+1,lo,some ⟨ga,0,none⟩,cc,s.vs.getD p [],body⟩) with hd:=r.hd++[G.fs.length] } G3):=hM3'
      have HFs3:Hid (G3.fs=G.fs++[⟨1,p,p,y+1,lo,some ⟨ga,0,none⟩,cc,s.vs.getD p [],body⟩]):=hfs3.trans HFs2.out
      have HSs3:Hid (G3.ss=G.ss):=hss3.trans HSs2.out
      have HFt3:Hid (∀ k,G3.foot b k→G.foot b k∨w.heap.size≤k):=fun k hk=>by
       have z1:=HBX.out.size
       have z2:=HAl.out.size
       have z3:=HGa.out
       rcases hft3 k hk with h | h
       ·rcases HFt2.out k h with h | h | h
        ·exact Or.inl h
        ·obtain ⟨off,h⟩:=h
         cases h
         exact Or.inr z3
        ·exact Or.inr (by omega)
       ·exact Or.inr (by omega)
      have HVZ:Hid (Ints Z (some ⟨ga,0,none⟩) g.n (s.vs.getD p [])):=(hM3'.fv ⟨1,p,p,y+1,lo,some ⟨ga,0,none⟩,cc,s.vs.getD p [],body⟩ (by rw [HFs3.out];simp)).ints
      have HPk:Hid (∀ q,Below Z.heap.size Z q→Calls Tryz.prog 168 #[.pointer (some ⟨b,0,none⟩),.agg #[.int .i64 1,.int .i64 (p:Int),.int .i64 (p:Int),.int .i64 (y+1),.int .i64 lo,.slice (some ⟨ga,0,none⟩) g.n cc,.string body],.int .i64 (p:Int),.int .i64 (p:Int)] q fun e w'=>(∃ v,e=.returned v∧Pks w' q.heap.size v (NS.sayL g p (s.word g p body)))∧Below q.heap.size q w'):=fun q hq=>by
       have h1:=a7k b g p _ G3 ⟨1,p,p,y+1,lo,some ⟨ga,0,none⟩,cc,s.vs.getD p [],body⟩ (p:Int) (p:Int) rfl hg hp (by rw [show Fr.fm ⟨1,p,p,y+1,lo,some ⟨ga,0,none⟩,cc,s.vs.getD p [],body⟩=s.word g p body from HWd.out.symm];exact HOk.out) q (HVZ.out.below hq) (HMZ.out.nd.low hq)
       rw [show Fr.fm ⟨1,p,p,y+1,lo,some ⟨ga,0,none⟩,cc,s.vs.getD p [],body⟩=s.word g p body from HWd.out.symm] at h1
       exact h1
      clear hM3' hfs3 hss3 hft3
      have HKp:Hid (∀ q,Below Z.heap.size Z q→q.cell? ⟨b,4,none⟩=some (.int .i64 (p:Int))∧q.cell? ⟨w3.heap.size,0,none⟩=some (.int .i64 1)∧q.cell? ⟨w3.heap.size,1,none⟩=some (.int .i64 (p:Int))∧q.cell? ⟨w3.heap.size,2,none⟩=some (.int .i64 (p:Int))∧q.cell? ⟨w3.heap.size,3,none⟩=some (.int .i64 (y+1))∧q.cell? ⟨w3.heap.size,4,none⟩=some (.int .i64 lo)∧q.cell? ⟨w3.heap.size,5,none⟩=some (.slice (some ⟨ga,0,none⟩) g.n cc)∧q.cell? ⟨w3.heap.size,6,none⟩=some (.string body)):=fun q hq=>by
       have h1:=HMZ.out.nd.low hq
       have h2:=HS3.out.below hq HS3.out.z
       exact ⟨h1.c4,h2.c0,h2.c1,h2.c2,h2.c3,h2.c4,h2.c5,h2.c6⟩
      have hk0:=HKp.out Z (Below.refl _ _)
      go_region_held3 (fun q=>q.cell? ⟨b,4,none⟩=some (.int .i64 (p:Int))∧q.cell? ⟨w3.heap.size,0,none⟩=some (.int .i64 1)∧q.cell? ⟨w3.heap.size,1,none⟩=some (.int .i64 (p:Int))∧q.cell? ⟨w3.heap.size,2,none⟩=some (.int .i64 (p:Int))∧q.cell? ⟨w3.heap.size,3,none⟩=some (.int .i64 (y+1))∧q.cell? ⟨w3.heap.size,4,none⟩=some (.int .i64 lo)∧q.cell? ⟨w3.heap.size,5,none⟩=some (.slice (some ⟨ga,0,none⟩) g.n cc)∧q.cell? ⟨w3.heap.size,6,none⟩=some (.string body)) (first|(exact hk0)|(exact HK1.out) | go_keep)
       (first|(go_at_call 168;refine (show Calls _ _ _ _ _ from HPk.out _ (by first | exact (Below.refl _ _).drew | exact below_drewN (Below.refl _ _) _ | exact Below.refl _ _)).mono ?_;rintro e w5 ⟨⟨pv,rfl,hps⟩,hb5⟩;obtain ⟨pa,pc,hpv⟩:=a01 hps.own;subst hpv;have HPs:Hid (Pks w5 Z.heap.size (.slice pa _ pc) (NS.sayL g p (s.word g p body))):=hps;have HB5:Hid (Below Z.heap.size Z w5):=bthen (by first | exact (Below.refl _ _).drew | exact below_drewN (Below.refl _ _) _ | exact Below.refl _ _) hb5;have HK1:Hid _:=HKp.out w5 HB5.out;clear hb5 hps))
      rename_i hHeld
      clear hHeld hk0
      go_wp2_with fail
      go_ret3
      rw [HR.out]
      have zX:=HBX.out.size
      have zY:=HAl.out.size
      have zZ:=HAl2.out.size
      refine ⟨_,rfl,⟨fun k=>G3.foot b k,⟨_,G3,HMZ.out.low HB5.out,?_,?_,?_,fun _ h=>h⟩,fun k hk=>(HFt3.out k hk).elim (fun h=>Or.inl (HFt.out k h)) Or.inr⟩,?_,⟨a3g HPs.out.own (by omega)⟩⟩
      ·have h1:=HSd.out
       rw [←HM.out.nd.wsl] at h1
       rw [show Fr.fm ⟨1,p,p,y+1,lo,some ⟨ga,0,none⟩,cc,s.vs.getD p [],body⟩=s.word g p body from HWd.out.symm]
       exact h1
      ·rw [HFs3.out,List.length_append]
       simp
       omega
      ·rw [HSs3.out]
       omega
      ·have a1:Alike w Y F:=(Alike.of_below HBX.out F).trans HAl.out (fun _ _ h=>h)
       have a2:Alike w Z F:=a1.trans HAl2.out (fun k hk h=>by
        rcases HFt2.out k h with h | h | h
        ·exact HFt.out k h
        ·obtain ⟨off,h⟩:=h
         cases h
         have:=HGa.out
         omega
        ·omega)
       exact a2.trans (Alike.of_below HB5.out F) (fun _ _ h=>h)
end Go.Proofs.YtabecbjfamphbaaGreatDoor
