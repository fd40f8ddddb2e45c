/- A part of the proof. -/
import Derived.Test.YtabecbjfamphbaaGreatDoorM38
namespace Go.Proofs.YtabecbjfamphbaaGreatDoor
open Go.RowKit Go.Stop Go.Extern
set_option maxRecDepth 100000
set_option maxHeartbeats 4000000
theorem b2r {t:TypeId} {w y:World} {b i:Nat} {e:TypeId} {sz:Nat} {ad a:Option Addr} {n c:Nat} {xs:List Value} {u:Value} (ht:∃ cur,w.heap[b]?=some (.cells cur t (0,0))) (hc:w.cell? ⟨b,i,none⟩=some u) (hb:Below w.heap.size w y) (ho:y.ownsRow w.heap.size e sz (.slice a n c) n xs):Grw t w (y.setCell ⟨b,i,none⟩ (.slice a n c)) b i e sz ad n xs:=by
 obtain ⟨cur,ht⟩:=ht
 have hbl:=lt_of_some ht
 have hty:y.heap[b]?=some (.cells cur t (0,0)):=(hb.block b hbl).trans ht
 have hyc:y.cell? ⟨b,i,none⟩=some u:=(hb.cell (p:=⟨b,i,none⟩) hbl).trans hc
 have hset:=Alike.setCell y ⟨b,i,none⟩ (.slice a n c)
 have hnew:∀ k,onB a k→w.heap.size≤k:=fun k hk=>by
  rcases ho.2 with ⟨e',_⟩ | ⟨g',cap',cur',e',hg',_⟩
  ·injection e' with e1
   rw [e1] at hk
   obtain ⟨_,e''⟩:=hk
   cases e''
  ·injection e' with e1
   rw [e1] at hk
   obtain ⟨_,e''⟩:=hk
   cases e''
   exact hg'
 refine ⟨⟨a,c,?_,a07 (a3g ho (Nat.zero_le _)) hset (fun k hk he=>?_),fun k hk=>Or.inr (hnew k hk)⟩,(Alike.of_below hb _).trans hset (fun k _ h=>Or.inl h),fun j v hj hv=>?_,⟨_,heap_setCell_same y b i cur _ _ hty⟩⟩
 ·go_simp
 ·have h1:=hnew k hk
  have h2:k=b:=he
  omega
 ·have h2:y.cell? ⟨b,j,none⟩=some v:=(hb.cell (p:=⟨b,j,none⟩) hbl).trans hv
  have hj2:¬ i=j:=fun h=>hj h.symm
  go_simp
theorem ak6 (nb:Nat) (g:Gr) (x:MNet) (m:Nat) (G:RNLay) (k:Nat) (t0:Pk) (hk:x.bag[k]?=some t0) (hx:x.Ok g) (w:World) (hN:RNt w nb g x m G) :
  Calls Tryz.prog 125 #[.pointer (some ⟨nb,0,none⟩),.int .i64 (k:Int)] w fun e w'=>e=.returned (.int .i64 0)∧Grw 238 w w' nb 5 109 2 G.ba (x.bag.eraseIdx k).length (prow (x.bag.eraseIdx k)):=by
 have hl:=hx.len
 have HPk:Hid (Calls Tryz.prog 129 #[.pointer (some ⟨nb,0,none⟩),.int .i64 (k:Int)] w fun e w'=>e=.returned (.tuple #[.agg #[.int .i64 t0.to,.string t0.text],.int .i64 0])∧Below w.heap.size w w'):=by
  have h:=a4p nb g x m (fun j=>G.foot nb g.n j) (k:Int) w ⟨G,hN,fun _ h=>h⟩
  have e:x.peekR (k:Int)=⟨t0,0⟩:=by
   unfold MNet.peekR MNet.at
   rw [if_pos (by omega)]
   simp [hk]
  rw [e] at h
  exact h
 have HP:Hid (Pks w 0 (.slice G.ba x.bag.length G.bc) x.bag):=⟨hN.bo⟩
 have c5:=hN.c5
 have HTy:Hid _:=hN.ty
 have fz:=a0h hN.ty 5
 have hhb:nb<w.heap.size:=lt_of_cell c5
 have HC5:Hid _:=c5
 clear hN hk hx
 generalize x.bag=bag at *
 obtain ⟨un,ux⟩:=t0
 simp only at HPk
 go_enter Tryz.func125,Tryz.ntmps125
 go_wp2_with fail
 refine (show Calls _ _ _ _ _ from HPk.out).mono ?_
 rintro e w1 ⟨rfl,hb1⟩
 have HBX:Hid (Below w.heap.size w (w1.alloc (.cells #[.int .i64 un,.string ux] 109))):=bthen hb1 (a00 _ _)
 clear hb1
 go_wp2_with fail
 generalize w1.alloc (.cells #[.int .i64 un,.string ux] 109)=X at *
 go_loopw [7,8] (fun a c wr=>∃ i:Nat,i≤bag.length∧c=.int .i64 i∧Pks wr w.heap.size a ((bag.take i).eraseIdx k)∧Below w.heap.size w wr) (fun _ c _=>bag.length-(intOf c).toNat)
 case atStart=>exact ⟨0,Nat.zero_le _,rfl,⟨by simp [prow],Or.inl ⟨rfl,by simp⟩⟩,HBX.out⟩
 case round =>
  obtain ⟨i,hin,rfl,hP,hb1⟩:=hrel
  have HLs:Hid (∃ ls,ls=(bag.take i).eraseIdx k):=⟨_,rfl⟩
  obtain ⟨ls,hls⟩:=HLs.out
  rw [←hls] at hP
  have HLs2:Hid (ls=(bag.take i).eraseIdx k):=hls
  clear hls HLs
  have HPs:Hid _:=hP
  obtain ⟨av,cv,hsh⟩:=a01 hP.own
  subst hsh
  have HB:Hid (Below w.heap.size w wr):=hb1
  have d1:=(hb1.cell (p:=⟨nb,5,none⟩) hhb).trans c5
  have hsz:=hb1.size
  have fz1:wr.frozen? ⟨nb,5,none⟩=false:=(hb1.frozen (p:=⟨nb,5,none⟩) hhb).trans fz
  clear hP hb1
  by_cases hlt:i<bag.length
  ·have hii:(i:Int)<(bag.length:Int):=by omega
   obtain ⟨t,ht⟩:∃ t,bag[i]?=some t:=⟨bag[i],List.getElem?_eq_getElem _⟩
   obtain ⟨gb,hav,hgl,p0,p1⟩:=HP.out.get ht
   rw [hav] at d1
   have q0:=(HB.out.cell (p:=⟨gb,i * 2,none⟩) hgl).trans p0
   have q1:=(HB.out.cell (p:=⟨gb,i * 2+1,none⟩) hgl).trans p1
   clear hav
   by_cases hik:i=k
   ·subst hik
    have HE:Hid _:=b56 ht
    have hne2:((i:Int) == (i:Int))=true:=by simp
    go_wp2_with fail
    go_roundw
    case rel=>exact ⟨i+1,by omega,by go_num,by rw [HE.out,←HLs2.out];exact HPs.out,HB.out⟩
    case measure=>simp [intOf];omega
   ·have HE:Hid (prow ((bag.take (i+1)).eraseIdx k)=prow ls++[.int .i64 t.to,.string t.text]∧((bag.take (i+1)).eraseIdx k).length=ls.length+1):=by
     rw [b36 ht hik,a0q,List.length_append,←HLs2.out]
     exact ⟨rfl,rfl⟩
    have hne:((i:Int) != (k:Int))=true:=by simp;omega
    have hne2:((i:Int) == (k:Int))=false:=by simp;omega
    have HLn:Hid (ls.length≤1000000000000):=by
     rw [HLs2.out]
     have h1:=List.length_eraseIdx_le (bag.take i) k
     have h2:(bag.take i).length≤bag.length:=by simp;omega
     show _≤_
     omega
    obtain ⟨i1,hj,hy0,hy1,hy2⟩:=info_parts Tryz.a13
    obtain ⟨tn,tx⟩:=t
    simp only at q0 q1 HE
    clear ht p0 p1
    go_wp2_with (at_builtin;refine wpList_append_own _ rfl (.tmp 30) (.tmp 38) 54 rfl w.heap.size 109 i1 _ 2 24 Tryz.underlying54 hj hy0 hy1 hy2 rfl (by decide) _ _ _ rfl (World.ownsRow.alloc HPs.out.own _) ⟨wr.heap.size,0,none⟩ 1 1 [.int .i64 tn,.string tx] rfl rfl ?c1 ?c2 (by have:=HLn.out;unfold maxLen;omega) (by have:=HLn.out;omega) (by simp;omega) ?_)
    case c1 =>
     intro q u hq
     match q,hq with
     | 0,hq=>simp at hq;subst hq;simp [Addr.add]
     | 1,hq=>simp at hq;subst hq;simp [Addr.add]
    case c2 =>
     intro u hu
     simp at hu
     rcases hu with rfl | rfl<;>rfl
    intro v4 w4 hown4 hgrow4 _
    have HG4:Hid (Pks w4 w.heap.size v4 ((bag.take (i+1)).eraseIdx k)):=by
     refine ⟨?_⟩
     rw [HE.out.1,HE.out.2]
     exact hown4
    have HB4:Hid (Below w.heap.size w w4):=(HB.out.alloc hsz _).grown hgrow4 (by simp;omega) HPs.out.block
    obtain ⟨a4,c4',hg4⟩:=a01 hown4
    subst hg4
    clear hown4 hgrow4
    go_wp2_with fail
    go_roundw
    case rel=>exact ⟨i+1,by omega,by go_num,HG4.out,HB4.out⟩
    case measure=>simp [intOf];omega
  ·have hin':i=bag.length:=by omega
   subst hin'
   have HLe:Hid (ls=bag.eraseIdx k):=by
    show _=_
    rw [HLs2.out,List.take_length]
   have HGf:Hid (Grw 238 w (wr.setCell ⟨nb,5,none⟩ (.slice av ls.length cv)) nb 5 109 2 G.ba ls.length (prow ls)):=b2r HTy.out HC5.out HB.out HPs.out.own
   go_wp2_with fail
   go_ret
   refine ⟨rfl,?_⟩
   rw [←HLe.out]
   exact HGf.out
theorem b8h {x:MNet} {k:Int} {t:Pk} (h:x.at k=some t):x.peekR k=⟨t,0⟩:=by
 unfold MNet.peekR
 rw [h]
theorem b1k {x:MNet} {k:Int} (h:x.at k=none):x.peekR k=⟨⟨0,⟨#[]⟩⟩,1⟩:=by
 unfold MNet.peekR
 rw [h]
theorem b52 (nb:Nat) (g:Gr) (x:MNet) (m:Nat) (F:Nat→Prop) (k:Int) (hx:x.Ok g) (w:World) (h:a0v w nb g x m F) :
  Calls Tryz.prog 125 #[.pointer (some ⟨nb,0,none⟩),.int .i64 k] w fun e w'=>e=.returned (.int .i64 ((x.dropR k).k:Int))∧RNDid w w' nb g F (x.dropR k).x (m+1):=by
 unfold MNet.dropR
 cases hk:x.at k with
 | some t =>
  obtain ⟨q,rfl,hq⟩:=a3z hk
  obtain ⟨G,hN,hF⟩:=h
  refine (ak6 nb g x m G q t hq hx w hN).mono ?_
  rintro e w' ⟨rfl,hg⟩
  obtain ⟨ba',bc',h1⟩:=(RNs.start hN hF).bag hg
  have eq:(q:Int).toNat=q:=by omega
  simp only [eq]
  exact ⟨rfl,(h1.more (Nat.le_succ m)).did⟩
 | none =>
  have HPk:Hid _:=a4p nb g x m F k w h
  rw [b1k hk] at HPk
  have HNone:Hid (∀ y,Below w.heap.size w y→RNDid w y nb g F x (m+1)):=fun y hy=>RNDid.none h hy
  clear h hx hk
  go_enter Tryz.func125,Tryz.ntmps125
  go_wp2_with fail
  refine (show Calls _ _ _ _ _ from HPk.out).mono ?_
  rintro e w1 ⟨rfl,hb1⟩
  have HD:Hid _:=HNone.out _ (bthen hb1 (a00 w1 (.cells #[.int .i64 0,.string ⟨#[]⟩] 109)))
  clear hb1
  go_wp2_with fail
  go_ret
  exact ⟨rfl,HD.out⟩
theorem b50 (nb:Nat) (g:Gr) (x:MNet) (m:Nat) (F:Nat→Prop) (k:Int) (hx:x.Ok g) (w:World) (h:a0v w nb g x m F) :
  Calls Tryz.prog 126 #[.pointer (some ⟨nb,0,none⟩),.int .i64 k] w fun e w'=>e=.returned (.int .i64 ((x.copyR k).k:Int))∧RNDid w w' nb g F (x.copyR k).x (m+1):=by
 have HPk:Hid _:=a4p nb g x m F k w h
 have HNone:Hid (∀ y,Below w.heap.size w y→RNDid w y nb g F x (m+1)):=fun y hy=>RNDid.none h hy
 unfold MNet.copyR
 cases hk:x.at k with
 | some t =>
  rw [b8h hk] at HPk
  obtain ⟨tn,tx⟩:=t
  simp only at HPk ⊢
  obtain ⟨G,hN,hF⟩:=h
  have hlx:=hx.len
  obtain ⟨i0,hi,hz0,hz1,hz2⟩:=info_parts Tryz.a13
  have hone:∀ u∈([.int .i64 tn,.string tx]:List Value),u.oneCell'=true:=by
   intro u hu
   simp at hu
   rcases hu with rfl | rfl<;>rfl
  have HEnd:Hid (∀ y z,Below w.heap.size w y→Grw 238 y z nb 5 109 2 G.ba (x.bag.length+1) (prow x.bag++[.int .i64 tn,.string tx])→RNDid w z nb g F { x with bag:=x.bag++[⟨tn,tx⟩] } (m+1)):=fun y z hy hg=>by
   have hg':Grw 238 y z nb 5 109 2 G.ba (x.bag++[(⟨tn,tx⟩:Pk)]).length (prow (x.bag++[(⟨tn,tx⟩:Pk)])):=by
    rw [List.length_append,a0q]
    exact hg
   obtain ⟨ba',bc',h1⟩:=((RNs.start hN hF).low hy).bag hg'
   exact (h1.more (Nat.le_succ m)).did
  have HAt:Hid (∀ y,Below w.heap.size w y→RNt y nb g x m G):=fun y hy=>hN.low hy
  generalize ({ x with bag:=x.bag++[⟨tn,tx⟩] }:MNet)=x' at *
  clear hN hF hx hk
  go_enter Tryz.func126,Tryz.ntmps126
  go_wp2_with fail
  refine (show Calls _ _ _ _ _ from HPk.out).mono ?_
  rintro e w1 ⟨rfl,hb1⟩
  have HBX:Hid (Below w.heap.size w (w1.alloc (.cells #[.int .i64 tn,.string tx] 109))):=bthen hb1 (a00 _ _)
  have e0:∀ i,(w1.alloc (.cells #[.int .i64 tn,.string tx] 109)).cell? ⟨w1.heap.size,i,none⟩=#[Value.int .i64 tn,.string tx][i]?:=fun i=>cell_of_row _ _ i _ _ (0,0) (heap_alloc_new _ _)
  have q0:(w1.alloc (.cells #[.int .i64 tn,.string tx] 109)).cell? ⟨w1.heap.size,0,none⟩=some (.int .i64 tn):=e0 0
  have q1:(w1.alloc (.cells #[.int .i64 tn,.string tx] 109)).cell? ⟨w1.heap.size,1,none⟩=some (.string tx):=e0 1
  clear hb1 e0
  go_wp2_with fail
  generalize w1.alloc (.cells #[.int .i64 tn,.string tx] 109)=X at *
  have hNX:=HAt.out X HBX.out
  have c5:=hNX.c5
  have fz:=a0h hNX.ty 5
  have hbX:nb<X.heap.size:=lt_of_cell c5
  have HTy:Hid _:=hNX.ty
  have HOw:Hid _:=hNX.bo
  have HO:Hid (∀ y:World,Below X.heap.size X y→y.ownsRow 0 109 2 (.slice G.ba x.bag.length G.bc) x.bag.length (prow x.bag)):=fun y hy=>a1a hNX.bo hy
  have hnb:some nb≠(Value.slice G.ba x.bag.length G.bc).ownBlock:=fun he=>by
   obtain ⟨cur,e⟩:=hNX.ty
   obtain ⟨_,e'⟩:=a02 hNX.bo (a1d hNX.bo he.symm)
   exact ty_ne e e' (by decide) rfl
  have HEn:Hid (∀ z,Grw 238 X z nb 5 109 2 G.ba (x.bag.length+1) (prow x.bag++[.int .i64 tn,.string tx])→RNDid w z nb g F x' (m+1)):=fun z hg=>HEnd.out X z HBX.out hg
  clear hNX HEnd HAt HNone
  generalize G.ba=ba at *
  generalize G.bc=bc at *
  generalize hbag:x.bag=bag at *
  generalize hbl:bag.length=bl at *
  go_region_law
   (refine step_append_lies _ rfl (.tmp 20) (.tmp 22) 54 rfl 0 109 i0 _ 2 24 Tryz.underlying54 hi hz0 hz1 hz2 rfl (by decide) (.slice ba bl bc) bl (prow bag) (by simp [Act.eval]) (HO.out _ (by first | exact (a00 _ _).drew | exact ((Below.refl _ _).drew).trans (a00 _ _) | exact a00 _ _)) ⟨X.heap.size,0,none⟩ 1 1 [.int .i64 tn,.string tx] (by simp [Act.eval]) rfl (World.news_of_block (heap_alloc_new X _)) hone (by decide) (by unfold maxLen;omega) (by omega) (Nat.zero_le _) _ rfl ?_;intro g' cap' v1 hown hgrow hat hlt2;have HO1:Hid (World.ownsRow v1 0 109 2 (.slice (some ⟨g',0,none⟩) (bl+1) cap') (bl+1) (prow bag++[.int .i64 tn,.string tx])):=hown;have HX:Hid (∃ x0:World,∃ H:Nat,Below X.heap.size X x0∧x0.grownBy v1 (Value.slice ba bl bc).ownBlock∧((Value.slice ba bl bc).ownBlock=some g'∨g'=H)∧X.heap.size≤H):=⟨_,_,(by first | exact (a00 _ _).drew | exact ((Below.refl _ _).drew).trans (a00 _ _) | exact a00 _ _),hgrow,hat,(by simp)⟩;have c11:v1.cell? ⟨nb,5,none⟩=some (.slice ba bl bc):=(hgrow.cell_far ⟨nb,5,none⟩ (by simp;omega) hnb).trans ((Below.cell (B:=X.heap.size) (w:=X) (by first | exact (a00 _ _).drew | exact ((Below.refl _ _).drew).trans (a00 _ _) | exact a00 _ _) (p:=⟨nb,5,none⟩) hbX).trans c5);have f11:v1.frozen? ⟨nb,5,none⟩=false:=(hgrow.frozen_far ⟨nb,5,none⟩ (by simp;omega) hnb).trans ((Below.frozen (B:=X.heap.size) (w:=X) (by first | exact (a00 _ _).drew | exact ((Below.refl _ _).drew).trans (a00 _ _) | exact a00 _ _) (p:=⟨nb,5,none⟩) hbX).trans fz);clear hown hgrow hat hlt2)
  all_goals
   have HG2:Hid (Grw 238 X (v1.setCell ⟨nb,5,none⟩ (.slice (some ⟨g',0,none⟩) (bl+1) cap')) nb 5 109 2 ba (bl+1) (prow bag++[.int .i64 tn,.string tx])):=by
    obtain ⟨x0,H,hx0,hgr,hat,hH⟩:=HX.out
    exact a7g (t:=238) (i:=5) (u:=.slice ba bl bc) HTy.out (by decide) HOw.out hx0 hgr hat hH HO1.out c11
   go_wp2_with fail
   go_ret
   exact ⟨rfl,HEn.out _ HG2.out⟩
 | none =>
  rw [b1k hk] at HPk
  clear h hx hk
  go_enter Tryz.func126,Tryz.ntmps126
  go_wp2_with fail
  refine (show Calls _ _ _ _ _ from HPk.out).mono ?_
  rintro e w1 ⟨rfl,hb1⟩
  have HD:Hid _:=HNone.out _ (bthen hb1 (a00 w1 (.cells #[.int .i64 0,.string ⟨#[]⟩] 109)))
  clear hb1
  go_wp2_with fail
  go_ret
  exact ⟨rfl,HD.out⟩
theorem b4b (nb:Nat) (g:Gr) (x:MNet) (m:Nat) (F:Nat→Prop) (p:Int) (s:ByteArray) (hx:x.Ok g) (w:World) (h:a0v w nb g x m F) :
  Calls Tryz.prog 127 #[.pointer (some ⟨nb,0,none⟩),.int .i64 p,.string s] w fun e w'=>e=.returned (.int .i64 ((x.sendR g p s).k:Int))∧RNDid w w' nb g F (x.sendR g p s).x (m+1):=by
 have HNo:Hid (Calls Tryz.prog 165 #[.agg #[.int .i64 (g.n:Int),.int .i64 g.W,.int .i64 g.B,.int .i64 g.L],.int .i64 p] w fun e w'=>e=.returned (.bool (a08 g.n p))∧Below w.heap.size w w'):=a2b (g.n:Int) g.W g.B g.L p w
 have HNone:Hid (∀ y,Below w.heap.size w y→RNDid w y nb g F x (m+1)):=fun y hy=>RNDid.none h hy
 obtain ⟨G,hN,hF⟩:=h
 have c0:=hN.c0
 have c1:=hN.c1
 have c2:=hN.c2
 have c3:=hN.c3
 unfold MNet.sendR
 by_cases hi:a08 g.n p=true
 ·rw [if_pos hi]
  rw [hi] at HNo
  by_cases hs:s.size≤100
  ·rw [if_pos hs]
   have hlx:=hx.len
   obtain ⟨i0,hi,hz0,hz1,hz2⟩:=info_parts Tryz.a13
   have hone:∀ u∈([.int .i64 p,.string s]:List Value),u.oneCell'=true:=by
    intro u hu
    simp at hu
    rcases hu with rfl | rfl<;>rfl
   have HEnd:Hid (∀ y z,Below w.heap.size w y→Grw 238 y z nb 5 109 2 G.ba (x.bag.length+1) (prow x.bag++[.int .i64 p,.string s])→RNDid w z nb g F { x with bag:=x.bag++[⟨p,s⟩] } (m+1)):=fun y z hy hg=>by
    have hg':Grw 238 y z nb 5 109 2 G.ba (x.bag++[(⟨p,s⟩:Pk)]).length (prow (x.bag++[(⟨p,s⟩:Pk)])):=by
     rw [List.length_append,a0q]
     exact hg
    obtain ⟨ba',bc',h1⟩:=((RNs.start hN hF).low hy).bag hg'
    exact (h1.more (Nat.le_succ m)).did
   have HAt:Hid (∀ y,Below w.heap.size w y→RNt y nb g x m G):=fun y hy=>hN.low hy
   have hsi:¬ ((100:Int)<(s.size:Int)):=by omega
   have hsb:decide ((100:Int)<(s.size:Int))=false:=decide_eq_false hsi
   generalize ({ x with bag:=x.bag++[⟨p,s⟩] }:MNet)=x' at *
   clear hN hF hx
   go_enter Tryz.func127,Tryz.ntmps127
   go_wp2_with fail
   refine (show Calls _ _ _ _ _ from HNo.out).mono ?_
   rintro e X ⟨rfl,hb1⟩
   have hNX:=HAt.out X hb1
   have c5:=hNX.c5
   have fz:=a0h hNX.ty 5
   have hbX:nb<X.heap.size:=lt_of_cell c5
   have HTy:Hid _:=hNX.ty
   have HOw:Hid _:=hNX.bo
   have HO:Hid (∀ y:World,Below X.heap.size X y→y.ownsRow 0 109 2 (.slice G.ba x.bag.length G.bc) x.bag.length (prow x.bag)):=fun y hy=>a1a hNX.bo hy
   have hnb:some nb≠(Value.slice G.ba x.bag.length G.bc).ownBlock:=fun he=>by
    obtain ⟨cur,e⟩:=hNX.ty
    obtain ⟨_,e'⟩:=a02 hNX.bo (a1d hNX.bo he.symm)
    exact ty_ne e e' (by decide) rfl
   have HEn:Hid (∀ z,Grw 238 X z nb 5 109 2 G.ba (x.bag.length+1) (prow x.bag++[.int .i64 p,.string s])→RNDid w z nb g F x' (m+1)):=fun z hg=>HEnd.out X z hb1 hg
   clear hNX HEnd HAt HNone hb1 c0 c1 c2 c3
   generalize G.ba=ba at *
   generalize G.bc=bc at *
   generalize hbag:x.bag=bag at *
   generalize hbl:bag.length=bl at *
   go_wp2_with (at_builtin;refine wpList_append_lies _ rfl (.tmp 23) (.tmp 27) 54 rfl 0 109 i0 _ 2 24 Tryz.underlying54 hi hz0 hz1 hz2 rfl (by decide) (.slice ba bl bc) bl (prow bag) rfl (HO.out _ (a00 _ _)) ⟨X.heap.size,0,none⟩ 1 1 [.int .i64 p,.string s] rfl rfl (World.news_of_block (heap_alloc_new X _)) hone (by decide) (by unfold maxLen;omega) (by omega) (Nat.zero_le _) _ rfl ?_)
   intro g' cap' v1 hown hgrow hat hlt2
   have c11:v1.cell? ⟨nb,5,none⟩=some (.slice ba bl bc):=(hgrow.cell_far ⟨nb,5,none⟩ (by simp;omega) hnb).trans ((Below.cell (B:=X.heap.size) (w:=X) (a00 _ _) (p:=⟨nb,5,none⟩) hbX).trans c5)
   have f11:v1.frozen? ⟨nb,5,none⟩=false:=(hgrow.frozen_far ⟨nb,5,none⟩ (by simp;omega) hnb).trans ((Below.frozen (B:=X.heap.size) (w:=X) (a00 _ _) (p:=⟨nb,5,none⟩) hbX).trans fz)
   have HG2:Hid (Grw 238 X (v1.setCell ⟨nb,5,none⟩ (.slice (some ⟨g',0,none⟩) (bl+1) cap')) nb 5 109 2 ba (bl+1) (prow bag++[.int .i64 p,.string s])):=a7g (t:=238) (i:=5) (u:=.slice ba bl bc) HTy.out (by decide) HOw.out (a00 _ _) hgrow hat (by simp) hown c11
   clear hown hgrow hat hlt2
   go_wp2_with fail
   go_ret
   exact ⟨rfl,HEn.out _ HG2.out⟩
  ·rw [if_neg hs]
   have hsi:(100:Int)<(s.size:Int):=by omega
   have hsb:decide ((100:Int)<(s.size:Int))=true:=decide_eq_true hsi
   clear hN hF hx hi
   go_enter Tryz.func127,Tryz.ntmps127
   go_wp2_with fail
   refine (show Calls _ _ _ _ _ from HNo.out).mono ?_
   rintro e w1 ⟨rfl,hb1⟩
   have HD:Hid _:=HNone.out w1 hb1
   clear hb1
   go_wp2_with fail
   go_ret
   exact ⟨rfl,HD.out⟩
 ·have hi':a08 g.n p=false:=by simpa using hi
  rw [if_neg hi]
  rw [hi'] at HNo
  clear hN hF hi hi' hx
  go_enter Tryz.func127,Tryz.ntmps127
  go_wp2_with fail
  refine (show Calls _ _ _ _ _ from HNo.out).mono ?_
  rintro e w1 ⟨rfl,hb1⟩
  have HD:Hid _:=HNone.out w1 hb1
  clear hb1
  go_wp2_with fail
  go_ret
  exact ⟨rfl,HD.out⟩
theorem aj9 (nb:Nat) (g:Gr) (x:MNet) (m:Nat) (F:Nat→Prop) (G:RNLay) (k pt:Nat) (tx:ByteArray) (hk:x.bag[k]?=some ⟨(pt:Int),tx⟩) (hg:g.Ok) (hx:x.Ok g) (hm:m≤100000000) (w:World) (hN:RNt w nb g x m G) (hF:∀ j,G.foot nb g.n j→F j) :
  Calls Tryz.prog 124 #[.pointer (some ⟨nb,0,none⟩),.int .i64 (k:Int)] w fun e w'=>e=.returned (.int .i64 (((x.nd pt).hear g pt tx).k:Int))∧RNDid w w' nb g F (x.a2g g k ⟨(pt:Int),tx⟩) (m+1):=by
 obtain ⟨⟨p',hp1,hp2⟩,hts⟩:=hx.bag _ (List.mem_of_getElem? hk)
 have hpt:pt<g.n:=by
  have:(pt:Int)=p':=hp1
  omega
 have hts':tx.size≤100:=hts
 have hlx:=hx.len
 have hn8:=hg.n
 have HPk:Hid (Calls Tryz.prog 129 #[.pointer (some ⟨nb,0,none⟩),.int .i64 (k:Int)] w fun e w'=>e=.returned (.tuple #[.agg #[.int .i64 (pt:Int),.string tx],.int .i64 0])∧Below w.heap.size w w'):=by
  have h:=a4p nb g x m F (k:Int) w ⟨G,hN,hF⟩
  have e:x.peekR (k:Int)=⟨⟨(pt:Int),tx⟩,0⟩:=by
   unfold MNet.peekR MNet.at
   rw [if_pos (by omega)]
   simp [hk]
  rw [e] at h
  exact h
 obtain ⟨gn,e1,r0⟩:=hN.at hpt
 obtain ⟨gf,e2,r1,_⟩:=hN.refAt hpt
 have hkb:k<x.bag.length:=(List.getElem?_eq_some_iff.1 hk).1
 have hel:(x.bag.eraseIdx k).length≤x.bag.length:=List.length_eraseIdx_le _ _
 have HSt:Hid (∀ w1,Below w.heap.size w w1→Calls Tryz.prog 125 #[.pointer (some ⟨nb,0,none⟩),.int .i64 (k:Int)] (w1.alloc (.cells #[.int .i64 (pt:Int),.string tx] 109)) fun e w2=>e=.returned (.int .i64 0)∧(w2.cell? ⟨nb,4,none⟩=some (.slice (some ⟨gn,0,none⟩) g.n G.nc)∧w2.cell? ⟨gn,pt,none⟩=some (.pointer (some ⟨G.rb pt,0,none⟩))∧w2.cell? ⟨w1.heap.size,0,none⟩=some (.int .i64 (pt:Int))∧w2.cell? ⟨w1.heap.size,1,none⟩=some (.string tx)) ∧
   ∀ y2,Below w2.heap.size w2 y2→Calls Tryz.prog 171 #[.pointer (some ⟨G.rb pt,0,none⟩),.string tx] y2 fun e w3=>∃ a n c,e=.returned (.tuple #[.slice a n c,.int .i64 (((x.nd pt).hear g pt tx).k:Int)])∧(w3.cell? ⟨nb,4,none⟩=some (.slice (some ⟨gn,0,none⟩) g.n G.nc)∧w3.cell? ⟨gn,pt,none⟩=some (.pointer (some ⟨G.rb pt,0,none⟩))∧w3.cell? ⟨w1.heap.size,0,none⟩=some (.int .i64 (pt:Int))∧w3.cell? ⟨w1.heap.size,1,none⟩=some (.string tx))∧(w3.cell? ⟨nb,6,none⟩=some (.slice (some ⟨gf,0,none⟩) g.n G.fc)∧w3.cell? ⟨gf,pt,none⟩=some (.int .i64 (x.ref pt))∧w3.frozen? ⟨gf,pt,none⟩=false) ∧
    (((x.nd pt).hear g pt tx).k=0→Calls Tryz.prog 177 #[.pointer (some ⟨nb,0,none⟩),.slice a n c] w3 fun e w'=>e=.returned (.tuple #[])∧RNDid w w' nb g F (x.a2g g k ⟨(pt:Int),tx⟩) (m+1)) ∧
    (((x.nd pt).hear g pt tx).k≠0→∀ y,Below w3.heap.size w3 y→Calls Tryz.prog 177 #[.pointer (some ⟨nb,0,none⟩),.slice a n c] (y.setCell ⟨gf,pt,none⟩ (.int .i64 (x.ref pt+1))) fun e w'=>e=.returned (.tuple #[])∧RNDid w w' nb g F (x.a2g g k ⟨(pt:Int),tx⟩) (m+1))):=fun w1 hb1=>by
  have hbX:Below w.heap.size w (w1.alloc (.cells #[.int .i64 (pt:Int),.string tx] 109)):=bthen hb1 (a00 _ _)
  have hs0:=(RNs.start hN hF).low hbX
  have hs1:=hb1.size
  have hbl:∀ j,G.foot nb g.n j→j<w.heap.size:=fun j hj=>hN.lt hj
  refine (ak6 nb g x m G k _ hk hx _ hs0.n).mono ?_
  rintro e w2 ⟨rfl,hgr⟩
  obtain ⟨ba2,bc2,hs2⟩:=hs0.bag hgr
  have hbx:∀ i,w2.cell? ⟨w1.heap.size,i,none⟩=#[Value.int .i64 (pt:Int),.string tx][i]?:=fun i=>by
   have e0:=cell_of_row (w1.alloc (.cells #[.int .i64 (pt:Int),.string tx] 109)) w1.heap.size i _ _ (0,0) (heap_alloc_new _ _)
   rw [←e0]
   refine World.cell?_of_block (hgr.rest.block w1.heap.size (by simp) (fun hc=>?_))
   rcases hc with e | hc
   ·have:=hbl nb (Or.inl rfl)
    omega
   ·have:=hbl _ (Or.inr (Or.inr (Or.inl hc)))
    omega
  have c4':=hs2.n.c4
  obtain ⟨gn',e1',r0'⟩:=hs2.n.at hpt
  have egn:gn'=gn:=by
   have:(some ⟨gn',0,none⟩:Option Addr)=some ⟨gn,0,none⟩:=e1'.symm.trans e1
   cases this
   rfl
  subst egn
  have c4'':w2.cell? ⟨nb,4,none⟩=some (.slice (some ⟨gn',0,none⟩) g.n G.nc):=by
   have h:=c4'
   simp only [e1] at h
   exact h
  refine ⟨rfl,⟨c4'',r0',hbx 0,hbx 1⟩,fun y2 hy2=>?_⟩
  have hs2y:=hs2.low hy2
  refine (ag6 (G.rb pt) g pt (x.nd pt) m (G.Fp pt) tx hg hpt (by unfold maxLen;omega) hm y2 (hs2y.n.nd pt hpt)).mono ?_
  rintro e w3 ⟨v,rfl,hd⟩
  obtain ⟨a,c,rfl⟩:=a01 hd.pks.own
  obtain ⟨Fp',hs3⟩:=hs2y.node hpt (Nat.le_succ m) hd
  have hnF:∀ j,j<w.heap.size→¬ (j=nb∨onB G.na j)∨¬ G.Fp pt j:=fun j _=>by
   by_cases h:G.Fp pt j
   ·have:=hN.off pt hpt j h
    exact Or.inl (fun hc=>by
     rcases hc with e | hc
     ·exact this.1 e
     ·exact this.2.1 hc)
   ·exact Or.inr h
  have hFnb:¬ G.Fp pt nb:=fun hc=>(hN.off pt hpt nb hc).1 rfl
  have hFgn:¬ G.Fp pt gn':=fun hc=>(hN.off pt hpt gn' hc).2.1 ⟨0,e1⟩
  have hFbx:¬ G.Fp pt w1.heap.size:=fun hc=>by
   have:=hbl _ (Or.inr (Or.inr (Or.inr (Or.inr ⟨pt,hpt,hc⟩))))
   omega
  have up:∀ {b i:Nat} {v:Value},w2.cell? ⟨b,i,none⟩=some v→¬ G.Fp pt b→w3.cell? ⟨b,i,none⟩=some v:=fun h1 h2=>hd.rest.cell ((hy2.cell (lt_of_cell h1)).trans h1) h2
  obtain ⟨gf',e2',r1',fz'⟩:=hs3.n.refAt hpt
  have egf:gf'=gf:=by
   have:(some ⟨gf',0,none⟩:Option Addr)=some ⟨gf,0,none⟩:=e2'.symm.trans e2
   cases this
   rfl
  subst egf
  have c6':w3.cell? ⟨nb,6,none⟩=some (.slice (some ⟨gf',0,none⟩) g.n G.fc):=by
   have h:=hs3.n.c6
   simp only [e2] at h
   exact h
  have hfew:=au2 g pt (x.nd pt) tx
  have hba2:∀ j,onB ba2 j→j<y2.heap.size:=fun j hj=>hs2y.n.lt (Or.inr (Or.inr (Or.inl hj)))
  have hgfl:gf'<y2.heap.size:=hs2y.n.lt (k:=gf') (Or.inr (Or.inr (Or.inr (Or.inl ⟨0,e2⟩))))
  refine ⟨a,_,c,rfl,⟨up c4'' hFnb,up r0' hFgn,up (hbx 0) hFbx,up (hbx 1) hFbx⟩,⟨c6',r1',fz'⟩,fun hk0=>?_,fun hk0 y hy=>?_⟩
  ·have hl:=hs3.lays hd.pks hba2 (by show (x.bag.eraseIdx k).length+_≤_;omega)
   refine hl.mono ?_
   rintro e w' ⟨rfl,hr⟩
   refine ⟨rfl,?_⟩
   have ed:x.a2g g k ⟨(pt:Int),tx⟩ = { x.put pt ((x.nd pt).hear g pt tx).s with bag:=x.bag.eraseIdx k++((x.nd pt).hear g pt tx).ps }:=by
    unfold MNet.a2g
    simp only [Int.toNat_natCast]
    rw [if_pos hk0]
   rw [ed]
   exact hr
  ·have hs4:=(hs3.low hy).refuse (p:=pt) hpt e2'
   have hpk:Pks (y.setCell ⟨gf',pt,none⟩ (.int .i64 (x.ref pt+1))) y2.heap.size (.slice a ((x.nd pt).hear g pt tx).ps.length c) ((x.nd pt).hear g pt tx).ps:=(hd.pks.alike (Alike.of_below hy (fun _=>False)) (fun _ _ _ h=>h)).alike (Alike.setCell y ⟨gf',pt,none⟩ _) (fun j hj _ he=>by
    have:j=gf':=he
    omega)
   have hl:=hs4.lays hpk hba2 (by show (x.bag.eraseIdx k).length+_≤_;omega)
   refine hl.mono ?_
   rintro e w' ⟨rfl,hr⟩
   refine ⟨rfl,?_⟩
   have ed:x.a2g g k ⟨(pt:Int),tx⟩=({ x.put pt ((x.nd pt).hear g pt tx).s with bag:=x.bag.eraseIdx k++((x.nd pt).hear g pt tx).ps }:MNet).refuse pt:=by
    unfold MNet.a2g
    simp only [Int.toNat_natCast]
    rw [if_neg hk0]
   rw [ed]
   exact hr
 have hpi:(pt:Int)<(g.n:Int):=by omega
 have hrb:=hx.ref pt hpt
 have hwr:IntKind.i64.wrap (x.ref pt+1)=x.ref pt+1:=by rw [IntKind.wrap_i64];omega
 generalize x.a2g g k ⟨(pt:Int),tx⟩=x' at *
 generalize ((x.nd pt).hear g pt tx).k=kk at *
 generalize x.ref pt=rp at *
 clear hN hF hk hx hts r0 r1 e1 e2 hp1 hp2
 go_enter Tryz.func124,Tryz.ntmps124
 go_wp2_with fail
 refine (show Calls _ _ _ _ _ from HPk.out).mono ?_
 rintro e w1 ⟨rfl,hb1⟩
 have HDr:Hid _:=HSt.out w1 hb1
 clear hb1
 go_wp2_with fail
 refine (show Calls _ _ _ _ _ from HDr.out).mono ?_
 rintro e w2 ⟨rfl,hS2,hh⟩
 have HS2:Hid _:=hS2
 have HH:Hid _:=hh
 clear hh hS2
 obtain ⟨s0,s1,s2,s3⟩:=HS2.out
 go_wp2_with fail
 go_region_held3 (fun v=>v.cell? ⟨nb,4,none⟩=some (.slice (some ⟨gn,0,none⟩) g.n G.nc)∧v.cell? ⟨gn,pt,none⟩=some (.pointer (some ⟨G.rb pt,0,none⟩))∧v.cell? ⟨w1.heap.size,0,none⟩=some (.int .i64 (pt:Int))∧v.cell? ⟨w1.heap.size,1,none⟩=some (.string tx)) (first|(exact HS2.out)|(exact HS3.out) | go_keep)
  (first|(go_at_call 171;refine (show Calls _ _ _ _ _ from HH.out _ (by first | exact (Below.refl _ _).drew | exact Below.refl _ _ | exact below_drewN (Below.refl _ _) _)).mono ?_;rintro e w3 ⟨a,n,c,rfl,hS3,hR3,hl0,hl1⟩;have HS3:Hid _:=hS3;have HR3:Hid _:=hR3;have HL0:Hid _:=hl0;have HL1:Hid _:=hl1;clear hS3 hR3 hl0 hl1))
 obtain ⟨s0',s1',s2',s3'⟩:=HS3.out
 obtain ⟨d6,dr,df⟩:=HR3.out
 by_cases hk0:kk=0
 ·subst hk0
  have HLa:Hid _:=HL0.out rfl
  go_wp2_with fail
  refine (show Calls _ _ _ _ _ from HLa.out).mono ?_
  rintro e w4 ⟨rfl,hD⟩
  have HD:Hid _:=hD
  clear hD
  go_wp2_with fail
  go_ret
  exact ⟨rfl,HD.out⟩
 ·have hki:((kk:Int) == 0)=false:=by simp;omega
  have hkj:((kk:Int) != 0)=true:=by simp;omega
  have HLa:Hid _:=HL1.out hk0
  go_wp2_with fail
  go_region
  all_goals
   go_wp2_with fail
   refine (show Calls _ _ _ _ _ from HLa.out _ (by first | exact (Below.refl _ _).drew | exact Below.refl _ _ | exact below_drewN (Below.refl _ _) _)).mono ?_
   rintro e w4 ⟨rfl,hD⟩
   have HD:Hid _:=hD
   clear hD
   go_wp2_with fail
   go_ret
   exact ⟨rfl,HD.out⟩
theorem ao7 (nb:Nat) (g:Gr) (x:MNet) (m:Nat) (F:Nat→Prop) (k:Int) (hg:g.Ok) (hx:x.Ok g) (hm:m≤100000000) (w:World) (h:a0v w nb g x m F) :
  Calls Tryz.prog 124 #[.pointer (some ⟨nb,0,none⟩),.int .i64 k] w fun e w'=>e=.returned (.int .i64 ((x.a0y g k).k:Int))∧RNDid w w' nb g F (x.a0y g k).x (m+1):=by
 unfold MNet.a0y
 cases hk:x.at k with
 | some t =>
  obtain ⟨q,rfl,hq⟩:=a3z hk
  obtain ⟨⟨p',hp1,hp2⟩,_⟩:=hx.bag _ (List.mem_of_getElem? hq)
  obtain ⟨tn,tx⟩:=t
  have hp1':tn=(p':Int):=hp1
  subst hp1'
  obtain ⟨G,hN,hF⟩:=h
  have eq:(q:Int).toNat=q:=by omega
  have ep:(p':Int).toNat=p':=by omega
  simp only [eq,ep]
  exact aj9 nb g x m F G q p' tx hq hg hx hm w hN hF
 | none =>
  have HPk:Hid _:=a4p nb g x m F k w h
  rw [b1k hk] at HPk
  have HNone:Hid (∀ y,Below w.heap.size w y→RNDid w y nb g F x (m+1)):=fun y hy=>RNDid.none h hy
  clear h hx hk
  go_enter Tryz.func124,Tryz.ntmps124
  go_wp2_with fail
  refine (show Calls _ _ _ _ _ from HPk.out).mono ?_
  rintro e w1 ⟨rfl,hb1⟩
  have HD:Hid _:=HNone.out _ (bthen hb1 (a00 w1 (.cells #[.int .i64 0,.string ⟨#[]⟩] 109)))
  clear hb1
  go_wp2_with fail
  go_ret
  exact ⟨rfl,HD.out⟩
structure RPre (w:World) (nb:Nat) (g:Gr) (k:Nat) (G:RNLay):Prop where
 ty:∃ cur,w.heap[nb]?=some (.cells cur 238 (0,0))
 c0:w.cell? ⟨nb,0,none⟩=some (.int .i64 (g.n:Int))
 c1:w.cell? ⟨nb,1,none⟩=some (.int .i64 g.W)
 c2:w.cell? ⟨nb,2,none⟩=some (.int .i64 g.B)
 c3:w.cell? ⟨nb,3,none⟩=some (.int .i64 g.L)
 c4:w.cell? ⟨nb,4,none⟩=some (.slice G.na k G.nc)
 no:w.ownsRow 0 121 1 (.slice G.na k G.nc) k (nprow G.rb k)
 c5:w.cell? ⟨nb,5,none⟩=some (.slice none 0 0)
 c6:w.cell? ⟨nb,6,none⟩=some (.slice G.fa k G.fc)
 fo:w.ownsRow 0 3 1 (.slice G.fa k G.fc) k (irow (refs (MNet.new g) k))
 nd:∀ p,p<k→RefAt w (G.rb p) g p (NS.new g) 0 (G.Fp p)
 tp:∀ p,p<k→∀ j,G.Fp p j→∃ cur t,w.heap[j]?=some (.cells cur t (0,0))∧t≠109
 dis:∀ p q,p<k→q<k→p≠q→∀ j,G.Fp p j→¬ G.Fp q j
 off:∀ p,p<k→∀ j,G.Fp p j→j≠nb∧¬ onB G.na j∧¬ onB G.fa j
 ba:G.ba=none∧G.bc=0
theorem RPre.lt {w:World} {nb:Nat} {g:Gr} {k:Nat} {G:RNLay} (h:RPre w nb g k G) {j:Nat} (hj:G.foot nb k j):j<w.heap.size:=by
 rcases hj with rfl | hk | hk | hk | ⟨p,hp,hk⟩
 ·obtain ⟨_,e⟩:=h.ty
  exact lt_of_some e
 ·obtain ⟨_,e⟩:=a02 h.no hk
  exact lt_of_some e
 ·rw [h.ba.1] at hk
  obtain ⟨_,e⟩:=hk
  cases e
 ·obtain ⟨_,e⟩:=a02 h.fo hk
  exact lt_of_some e
 ·obtain ⟨_,_,e,_⟩:=h.tp p hp j hk
  exact lt_of_some e
theorem b30 (g:Gr) (k:Nat):irow (refs (MNet.new g) (k+1))=irow (refs (MNet.new g) k)++[.int .i64 0]:=by
 unfold refs
 rw [List.range_succ,List.map_append]
 simp [irow,MNet.new]
theorem b0d (rb:Nat→Nat) (k b:Nat):nprow (fun p=>if p=k then b else rb p) (k+1)=nprow rb k++[.pointer (some ⟨b,0,none⟩)]:=by
 unfold nprow
 rw [List.range_succ,List.map_append]
 congr 1
 ·refine List.map_congr_left fun p hp=>?_
  have:p≠k:=by have:=List.mem_range.1 hp;omega
  simp [this]
 ·simp
theorem RPre.step {w w1 w2 w3:World} {nb:Nat} {g:Gr} {k:Nat} {G:RNLay} (h:RPre w nb g k G) (hb:Below w.heap.size w w1) {b:Nat} {F':Nat→Prop} (hr:RefAt w1 b g k (NS.new g) 0 F') (hF:∀ j,F' j→w.heap.size≤j)
  (hg4:Grw 238 w1 w2 nb 4 121 1 G.na (k+1) (nprow G.rb k++[.pointer (some ⟨b,0,none⟩)])) (hg6:Grw 238 w2 w3 nb 6 3 1 G.fa (k+1) (irow (refs (MNet.new g) k)++[.int .i64 0])) :
  ∃ G',RPre w3 nb g (k+1) G'∧∀ j,G'.foot nb (k+1) j→G.foot nb k j∨w.heap.size≤j:=by
 obtain ⟨F0,t1,t2,_,t4⟩:=hr.tight
 obtain ⟨⟨na',nc',n4,no',nn⟩,r4,o4,ty4⟩:=hg4
 obtain ⟨⟨fa',fc',n6,fo',fn⟩,r6,o6,ty6⟩:=hg6
 have hlt:∀ {j},G.foot nb k j→j<w.heap.size:=fun hj=>h.lt hj
 have hs0:=hb.size
 have hs1:=r4.size
 have hs2:=r6.size
 have hnb:nb<w.heap.size:=hlt (Or.inl rfl)
 have hF0:∀ j,F0 j→w.heap.size≤j∧j<w1.heap.size:=fun j hj=>⟨hF j (t1 j hj),by
  obtain ⟨_,_,e,_⟩:=t4 j hj
  exact lt_of_some e⟩
 have hna:∀ j,onB G.na j→j<w.heap.size:=fun j hj=>hlt (Or.inr (Or.inl hj))
 have hfa:∀ j,onB G.fa j→j<w.heap.size:=fun j hj=>hlt (Or.inr (Or.inr (Or.inr (Or.inl hj))))
 have e1:∀ i v,w.cell? ⟨nb,i,none⟩=some v→w1.cell? ⟨nb,i,none⟩=some v:=fun i v hv=>(hb.cell (p:=⟨nb,i,none⟩) hnb).trans hv
 have e3:∀ i v,i≠4→i≠6→w.cell? ⟨nb,i,none⟩=some v→w3.cell? ⟨nb,i,none⟩=some v:=fun i v h4 h6 hv=>o6 i v h6 (o4 i v h4 (e1 i v hv))
 obtain ⟨curn,htn⟩:=h.ty
 have htn1:w1.heap[nb]?=some (.cells curn 238 (0,0)):=(hb.block nb hnb).trans htn
 obtain ⟨curn2,htn2⟩:=ty4
 have hnn:∀ j,onB na' j→¬ (j=nb∨onB G.fa j):=fun j hj hc=>by
  obtain ⟨_,e⟩:=a02 no' hj
  rcases hc with rfl | hc
  ·exact ty_ne e htn2 (by decide) rfl
  ·rcases nn j hj with h1 | h1
   ·obtain ⟨_,ea⟩:=a02 h.no h1
    obtain ⟨_,eb⟩:=a02 h.fo hc
    exact ty_ne ea eb (by decide) rfl
   ·have:=hfa j hc
    omega
 have hE4:∀ p,p<k→∀ j,G.Fp p j→¬ (j=nb∨onB G.na j):=fun p hp j hj hc=>by
  have:=h.off p hp j hj
  rcases hc with e | hc
  ·exact this.1 e
  ·exact this.2.1 hc
 have hE6:∀ p,p<k→∀ j,G.Fp p j→¬ (j=nb∨onB G.fa j):=fun p hp j hj hc=>by
  have:=h.off p hp j hj
  rcases hc with e | hc
  ·exact this.1 e
  ·exact this.2.2 hc
 have hF4:∀ j,F0 j→¬ (j=nb∨onB G.na j):=fun j hj hc=>by
  have h1:=(hF0 j hj).1
  rcases hc with e | hc
  ·omega
  ·have:=hna j hc
   omega
 have hF6:∀ j,F0 j→¬ (j=nb∨onB G.fa j):=fun j hj hc=>by
  have h1:=(hF0 j hj).1
  rcases hc with e | hc
  ·omega
  ·have:=hfa j hc
   omega
 have hFpl:∀ p,p<k→∀ j,G.Fp p j→j<w.heap.size:=fun p hp j hj=>hlt (Or.inr (Or.inr (Or.inr (Or.inr ⟨p,hp,hj⟩))))
 refine ⟨⟨na',nc',none,0,fa',fc',fun p=>if p=k then b else G.rb p,fun p=>if p=k then F0 else G.Fp p⟩,⟨ty6,e3 0 _ (by decide) (by decide) h.c0,e3 1 _ (by decide) (by decide) h.c1,e3 2 _ (by decide) (by decide) h.c2,e3 3 _ (by decide) (by decide) h.c3,o6 4 _ (by decide) n4,?_,e3 5 _ (by decide) (by decide) h.c5,n6,?_,fun p hp=>?_,fun p hp j hj=>?_,fun p q hp hq hne j hj hc=>?_,fun p hp j hj=>?_,⟨rfl,rfl⟩⟩,fun j hj=>?_⟩
 ·rw [b0d]
  exact a07 no' r6 hnn
 ·rw [b30]
  exact fo'
 ·by_cases e:p=k
  ·subst e
   simp only [if_true]
   exact (t2.alike r4 hF4).alike r6 hF6
  ·simp only [if_neg e]
   have hp':p<k:=by omega
   exact (((h.nd p hp').low hb).alike r4 (hE4 p hp')).alike r6 (hE6 p hp')
 ·simp only at hj
  by_cases e:p=k
  ·rw [if_pos e] at hj
   obtain ⟨cur,t,e',ht,_⟩:=t4 j hj
   have h1:=(r4.block j (lt_of_some e') (hF4 j hj)).trans e'
   exact ⟨cur,t,(r6.block j (lt_of_some h1) (hF6 j hj)).trans h1,ht⟩
  ·rw [if_neg e] at hj
   have hp':p<k:=by omega
   obtain ⟨cur,t,e',ht⟩:=h.tp p hp' j hj
   have h0:=(hb.block j (lt_of_some e')).trans e'
   have h1:=(r4.block j (lt_of_some h0) (hE4 p hp' j hj)).trans h0
   exact ⟨cur,t,(r6.block j (lt_of_some h1) (hE6 p hp' j hj)).trans h1,ht⟩
 ·simp only at hj hc
  by_cases e1:p=k
  ·rw [if_pos e1] at hj
   rw [if_neg (fun e=>hne (e1.trans e.symm))] at hc
   have h1:=hFpl q (by omega) j hc
   have h2:=(hF0 j hj).1
   omega
  ·rw [if_neg e1] at hj
   by_cases e2:q=k
   ·rw [if_pos e2] at hc
    have h1:=hFpl p (by omega) j hj
    have h2:=(hF0 j hc).1
    omega
   ·rw [if_neg e2] at hc
    exact h.dis p q (by omega) (by omega) hne j hj hc
 ·simp only at hj ⊢
  by_cases e:p=k
  ·rw [if_pos e] at hj
   have h2:=hF0 j hj
   refine ⟨by omega,fun hc=>?_,fun hc=>?_⟩
   ·rcases nn j hc with h3 | h3
    ·have:=hna j h3
     omega
    ·omega
   ·rcases fn j hc with h3 | h3
    ·have:=hfa j h3
     omega
    ·omega
  ·rw [if_neg e] at hj
   have hp':p<k:=by omega
   have h2:=hFpl p hp' j hj
   have h3:=h.off p hp' j hj
   refine ⟨h3.1,fun hc=>?_,fun hc=>?_⟩
   ·rcases nn j hc with h4 | h4
    ·exact h3.2.1 h4
    ·omega
   ·rcases fn j hc with h4 | h4
    ·exact h3.2.2 h4
    ·omega
 ·rcases hj with e | hj | hj | hj | ⟨p,hp,hj⟩
  ·exact Or.inl (Or.inl e)
  ·rcases nn j hj with h1 | h1
   ·exact Or.inl (Or.inr (Or.inl h1))
   ·exact Or.inr (by omega)
  ·obtain ⟨_,e⟩:=hj
   cases e
  ·rcases fn j hj with h1 | h1
   ·exact Or.inl (Or.inr (Or.inr (Or.inr (Or.inl h1))))
   ·exact Or.inr (by omega)
  ·simp only at hj
   by_cases e:p=k
   ·rw [if_pos e] at hj
    exact Or.inr (hF0 j hj).1
   ·rw [if_neg e] at hj
    exact Or.inl (Or.inr (Or.inr (Or.inr (Or.inr ⟨p,by omega,hj⟩))))
theorem RPre.done {w:World} {nb:Nat} {g:Gr} {G:RNLay} (h:RPre w nb g g.n G):RNt w nb g (MNet.new g) 0 G:=by
 refine ⟨h.ty,h.c0,h.c1,h.c2,h.c3,h.c4,h.no,?_,?_,h.c6,h.fo,h.nd,h.tp,h.dis,h.off⟩
 ·rw [h.ba.1,h.ba.2]
  exact h.c5
 ·rw [h.ba.1,h.ba.2]
  exact World.ownsRow_nil _ _ _ _
theorem Tryz.b3m:(Tryz.prog.info? 121).map (fun i=>(i.zero,i.size,i.bytes))=some (some (.pointer none),1,8):=by kernel_rfl
theorem RPre.start {w:World} {nb:Nat} {g:Gr} (h:w.heap[nb]?=some (.cells #[.int .i64 (g.n:Int),.int .i64 g.W,.int .i64 g.B,.int .i64 g.L,.slice none 0 0,.slice none 0 0,.slice none 0 0] 238 (0,0))):RPre w nb g 0 ⟨none,0,none,0,none,0,fun _=>0,fun _ _=>False⟩:=by
 have e:∀ i,w.cell? ⟨nb,i,none⟩=#[Value.int .i64 (g.n:Int),.int .i64 g.W,.int .i64 g.B,.int .i64 g.L,.slice none 0 0,.slice none 0 0,.slice none 0 0][i]?:=fun i=>cell_of_row w nb i _ _ (0,0) h
 exact ⟨⟨_,h⟩,e 0,e 1,e 2,e 3,e 4,World.ownsRow_nil _ _ _ _,e 5,e 6,World.ownsRow_nil _ _ _ _,fun p hp=>absurd hp (Nat.not_lt_zero _),fun p hp=>absurd hp (Nat.not_lt_zero _),fun p q hp=>absurd hp (Nat.not_lt_zero _),fun p hp=>absurd hp (Nat.not_lt_zero _),⟨rfl,rfl⟩⟩
theorem an9 (g:Gr) (hg:g.Ok) (w:World) :
  Calls Tryz.prog 121 #[.agg #[.int .i64 (g.n:Int),.int .i64 g.W,.int .i64 g.B,.int .i64 g.L]] w fun e w'=>(∃ nb F,e=.returned (.tuple #[.pointer (some ⟨nb,0,none⟩),.int .i64 0])∧a0v w' nb g (MNet.new g) 0 F∧∀ k,F k→w.heap.size≤k)∧Below w.heap.size w w':=by
 have hok:okG (g.n:Int) g.W g.B g.L=true:=a0u.2 ⟨by have:=hg.n;omega,by have:=hg.n;omega,hg.W.1,hg.W.2,hg.B.1,hg.B.2,hg.L.1,hg.L.2⟩
 have HCk:Hid (∀ y,Calls Tryz.prog 158 #[.agg #[.int .i64 (g.n:Int),.int .i64 g.W,.int .i64 g.B,.int .i64 g.L]] y fun e w'=>e=.returned (.int .i64 0)∧Below y.heap.size y w'):=fun y=>by
  have h:=a14 (g.n:Int) g.W g.B g.L y
  rw [if_pos hok] at h
  exact h
 have HNw:Hid (∀ (y:World) (p:Nat),p<g.n→Calls Tryz.prog 106 #[.agg #[.int .i64 (g.n:Int),.int .i64 g.W,.int .i64 g.B,.int .i64 g.L],.int .i64 (p:Int)] y fun e w'=>(∃ b F,e=.returned (.tuple #[.pointer (some ⟨b,0,none⟩),.int .i64 0])∧RefAt w' b g p (NS.new g) 0 F∧∀ k,F k→y.heap.size≤k)∧Below y.heap.size y w'):=fun y p hp=>by
  refine (b2u (g.n:Int) g.W g.B g.L (p:Int) y).mono ?_
  rintro e w' ⟨⟨v,rfl,_,hyes⟩,hb⟩
  have h0:=a95 hg hp
  obtain ⟨b,F,rfl,r1,r2⟩:=hyes h0
  have e1:(g.n:Int).toNat=g.n:=by omega
  have e2:(p:Int).toNat=p:=by omega
  rw [e1,e2] at r1
  rw [h0]
  exact ⟨⟨b,F,rfl,r1,r2⟩,hb⟩
 have hn8:=hg.n
 clear hok hg
 obtain ⟨i0,hi,hz0,hz1,hz2⟩:=info_parts Tryz.b3m
 obtain ⟨i1,hj,hy0,hy1,hy2⟩:=info_parts Tryz.b3q
 go_enter Tryz.func121,Tryz.ntmps121
 go_wp2_with fail
 have HBX:Hid (Below w.heap.size w (w.alloc (.cells #[.int .i64 (g.n:Int),.int .i64 g.W,.int .i64 g.B,.int .i64 g.L] 26))):=a00 _ _
 have e0:∀ i,(w.alloc (.cells #[.int .i64 (g.n:Int),.int .i64 g.W,.int .i64 g.B,.int .i64 g.L] 26)).cell? ⟨w.heap.size,i,none⟩=#[Value.int .i64 (g.n:Int),.int .i64 g.W,.int .i64 g.B,.int .i64 g.L][i]?:=fun i=>cell_of_row _ _ i _ _ (0,0) (heap_alloc_new _ _)
 have HE0:Hid _:=e0
 have HZ:Hid (w.heap.size<(w.alloc (.cells #[.int .i64 (g.n:Int),.int .i64 g.W,.int .i64 g.B,.int .i64 g.L] 26)).heap.size):=by show _<_;simp
 clear e0
 generalize w.alloc (.cells #[.int .i64 (g.n:Int),.int .i64 g.W,.int .i64 g.B,.int .i64 g.L] 26)=X at *
 refine (show Calls _ _ _ _ _ from HCk.out X).mono ?_
 rintro e w1 ⟨rfl,hb1⟩
 have HB1:Hid (Below w.heap.size w w1):=bthen HBX.out hb1
 have HE1:Hid (∀ y,Below w1.heap.size w1 y→y.cell? ⟨w.heap.size,0,none⟩=some (.int .i64 (g.n:Int))∧y.cell? ⟨w.heap.size,1,none⟩=some (.int .i64 g.W)∧y.cell? ⟨w.heap.size,2,none⟩=some (.int .i64 g.B)∧y.cell? ⟨w.heap.size,3,none⟩=some (.int .i64 g.L)):=fun y hy=>by
  have hz:=HZ.out
  have hs:=hb1.size
  have e:∀ i,y.cell? ⟨w.heap.size,i,none⟩=#[Value.int .i64 (g.n:Int),.int .i64 g.W,.int .i64 g.B,.int .i64 g.L][i]?:=fun i=>(hy.cell (p:=⟨w.heap.size,i,none⟩) (by show w.heap.size<_;omega)).trans ((hb1.cell (p:=⟨w.heap.size,i,none⟩) hz).trans (HE0.out i))
  exact ⟨e 0,e 1,e 2,e 3⟩
 obtain ⟨q0,q1,q2,q3⟩:=HE1.out w1 (Below.refl _ _)
 have HBN:Hid (Below w1.heap.size w1 (w1.alloc (.cells #[.int .i64 (g.n:Int),.int .i64 g.W,.int .i64 g.B,.int .i64 g.L,.slice none 0 0,.slice none 0 0,.slice none 0 0] 238))):=a00 _ _
 have HP0:Hid (RPre (w1.alloc (.cells #[.int .i64 (g.n:Int),.int .i64 g.W,.int .i64 g.B,.int .i64 g.L,.slice none 0 0,.slice none 0 0,.slice none 0 0] 238)) w1.heap.size g 0 ⟨none,0,none,0,none,0,fun _=>0,fun _ _=>False⟩):=RPre.start (heap_alloc_new _ _)
 clear hb1
 go_wp2_with fail
 generalize w1.alloc (.cells #[.int .i64 (g.n:Int),.int .i64 g.W,.int .i64 g.B,.int .i64 g.L,.slice none 0 0,.slice none 0 0,.slice none 0 0] 238)=Y at *
 clear q0 q1 q2 q3
 go_loopw [6] (fun c wr=>∃ k:Nat,∃ G:RNLay,k≤g.n∧c=.int .i64 k∧RPre wr w1.heap.size g k G∧(∀ j,G.foot w1.heap.size k j→w1.heap.size≤j)∧Below w1.heap.size w1 wr) (fun c _=>g.n-(intOf c).toNat)
 case atStart =>
  refine ⟨0,_,Nat.zero_le _,rfl,HP0.out,fun j hj=>?_,HBN.out⟩
  rcases hj with rfl | ⟨_,e⟩ | ⟨_,e⟩ | ⟨_,e⟩ | ⟨p,hp,_⟩
  ·exact Nat.le_refl _
  ·cases e
  ·cases e
  ·cases e
  ·omega
 case round =>
  obtain ⟨k,G,hkn,rfl,hP,hfz,hbr⟩:=hrel
  obtain ⟨q0,q1,q2,q3⟩:=HE1.out wr hbr
  have HP:Hid _:=hP
  have HFz:Hid (∀ j,G.foot w1.heap.size k j→w1.heap.size≤j):=hfz
  have HBr:Hid (Below w1.heap.size w1 wr):=hbr
  clear hP hfz hbr
  by_cases hlt:k<g.n
  ·have hki:(k:Int)<(g.n:Int):=by omega
   have HNk:Hid _:=HNw.out wr k hlt
   go_wp2_with fail
   refine (show Calls _ _ _ _ _ from HNk.out).mono ?_
   rintro e w2 ⟨⟨b,F',rfl,hr,hF'⟩,hb2⟩
   have HR:Hid _:=hr
   have HF':Hid (∀ j,F' j→wr.heap.size≤j):=hF'
   have HB2:Hid (Below wr.heap.size wr w2):=hb2
   have hnl:w1.heap.size<wr.heap.size:=HP.out.lt (Or.inl rfl)
   have c4:=(hb2.cell (p:=⟨w1.heap.size,4,none⟩) hnl).trans HP.out.c4
   have HTy2:Hid (∃ cur,w2.heap[w1.heap.size]?=some (.cells cur 238 (0,0))):=by
    obtain ⟨cur,e⟩:=HP.out.ty
    exact ⟨cur,(hb2.block _ hnl).trans e⟩
   have HNo2:Hid (w2.ownsRow 0 121 1 (.slice G.na k G.nc) k (nprow G.rb k)):=a1a HP.out.no hb2
   have HFo2:Hid (w2.ownsRow 0 3 1 (.slice G.fa k G.fc) k (irow (refs (MNet.new g) k))):=a1a HP.out.fo hb2
   have HC6:Hid (w2.cell? ⟨w1.heap.size,6,none⟩=some (.slice G.fa k G.fc)):=(hb2.cell (p:=⟨w1.heap.size,6,none⟩) hnl).trans HP.out.c6
   have hnb4:some w1.heap.size≠(Value.slice G.na k G.nc).ownBlock:=fun he=>by
    obtain ⟨cur,e⟩:=HTy2.out
    obtain ⟨_,e'⟩:=a02 HNo2.out (a1d HNo2.out he.symm)
    exact ty_ne e e' (by decide) rfl
   have fz4:=a0h HTy2.out 4
   have hbX:w1.heap.size<w2.heap.size:=lt_of_cell c4
   have hone:∀ u∈([.pointer (some ⟨b,0,none⟩)]:List Value),u.oneCell'=true:=by
    intro u hu
    simp at hu
    subst hu
    rfl
   have hone0:∀ u∈([.int .i64 0]:List Value),u.oneCell'=true:=by
    intro u hu
    simp at hu
    subst hu
    rfl
   have HO4:Hid (∀ x:World,Below w2.heap.size w2 x→x.ownsRow 0 121 1 (.slice G.na k G.nc) k (nprow G.rb k)):=fun x hx=>a1a HNo2.out hx
   clear hr hF' hb2 q0 q1 q2 q3
   go_wp2_with (at_builtin;refine wpList_append_lies _ rfl (.tmp 33) (.tmp 35) 236 rfl 0 121 i0 _ 1 8 Tryz.underlying236 hi hz0 hz1 hz2 rfl (by decide) (.slice G.na k G.nc) k (nprow G.rb k) rfl (HO4.out _ (a00 _ _)) ⟨w2.heap.size,0,none⟩ 1 1 [.pointer (some ⟨b,0,none⟩)] rfl rfl (World.news_of_block (heap_alloc_new w2 _)) hone (by decide) (by unfold maxLen;omega) (by omega) (Nat.zero_le _) _ rfl ?_)
   intro g' cap' v1 hown hgrow hat hlt2
   have c11:v1.cell? ⟨w1.heap.size,4,none⟩=some (.slice G.na k G.nc):=(hgrow.cell_far ⟨w1.heap.size,4,none⟩ (by simp;omega) hnb4).trans ((Below.cell (B:=w2.heap.size) (w:=w2) (a00 _ _) (p:=⟨w1.heap.size,4,none⟩) hbX).trans c4)
   have f11:v1.frozen? ⟨w1.heap.size,4,none⟩=false:=(hgrow.frozen_far ⟨w1.heap.size,4,none⟩ (by simp;omega) hnb4).trans ((Below.frozen (B:=w2.heap.size) (w:=w2) (a00 _ _) (p:=⟨w1.heap.size,4,none⟩) hbX).trans fz4)
   have hG4:Grw 238 w2 (v1.setCell ⟨w1.heap.size,4,none⟩ (.slice (some ⟨g',0,none⟩) (k+1) cap')) w1.heap.size 4 121 1 G.na (k+1) (nprow G.rb k++[.pointer (some ⟨b,0,none⟩)]):=a7g (t:=238) (i:=4) (u:=.slice G.na k G.nc) HTy2.out (by decide) HNo2.out (a00 _ _) hgrow hat (by simp) hown c11
   have HG4:Hid _:=hG4
   have c6:=hG4.others 6 _ (by decide) HC6.out
   have HTy3:Hid _:=hG4.ty
   have HFo3:Hid _:=a07 HFo2.out hG4.rest (fun j hj hc=>by
    obtain ⟨_,e⟩:=a02 HFo2.out hj
    rcases hc with rfl | hc
    ·obtain ⟨_,e'⟩:=HTy2.out
     exact ty_ne e e' (by decide) rfl
    ·obtain ⟨_,e'⟩:=a02 HNo2.out hc
     exact ty_ne e e' (by decide) rfl)
   clear hown hgrow hat hlt2 hG4 c4 fz4
   have hsz2:(v1.setCell ⟨w1.heap.size,4,none⟩ (.slice (some ⟨g',0,none⟩) (k+1) cap')).heap.size=v1.heap.size:=by simp [World.setCell]
   have hnw:=World.news_of_block (heap_alloc_new (v1.setCell ⟨w1.heap.size,4,none⟩ (.slice (some ⟨g',0,none⟩) (k+1) cap')) (.cells #[.int .i64 0] 3))
   rw [hsz2] at hnw
   have HNw6:Hid _:=hnw
   have HO6:Hid (∀ x:World,Below (v1.setCell ⟨w1.heap.size,4,none⟩ (.slice (some ⟨g',0,none⟩) (k+1) cap')).heap.size (v1.setCell ⟨w1.heap.size,4,none⟩ (.slice (some ⟨g',0,none⟩) (k+1) cap')) x→x.ownsRow 0 3 1 (.slice G.fa k G.fc) k (irow (refs (MNet.new g) k))):=fun x hx=>a1a HFo3.out hx
   have hnb6:some w1.heap.size≠(Value.slice G.fa k G.fc).ownBlock:=fun he=>by
    obtain ⟨cur,e⟩:=HTy3.out
    obtain ⟨_,e'⟩:=a02 HFo3.out (a1d HFo3.out he.symm)
    exact ty_ne e e' (by decide) rfl
   have fz6:=a0h HTy3.out 6
   have hbX3:w1.heap.size<v1.heap.size:=by
    have:=lt_of_cell c6
    omega
   have HSz:Hid (w2.heap.size≤v1.heap.size):=by
    have:=HG4.out.rest.size
    show _≤_
    omega
   clear hnw
   go_wp2_with (at_builtin;refine wpList_append_lies _ rfl (.tmp 43) (.tmp 44) 34 rfl 0 3 i1 _ 1 8 Tryz.underlying34 hj hy0 hy1 hy2 rfl (by decide) (.slice G.fa k G.fc) k (irow (refs (MNet.new g) k)) rfl (HO6.out _ (a00 _ _)) ⟨v1.heap.size,0,none⟩ 1 1 [.int .i64 0] rfl rfl HNw6.out hone0 (by decide) (by unfold maxLen;omega) (by omega) (Nat.zero_le _) _ rfl ?_)
   intro g2 cap2 v3 hown hgrow hat hlt2
   have c16:v3.cell? ⟨w1.heap.size,6,none⟩=some (.slice G.fa k G.fc):=(hgrow.cell_far ⟨w1.heap.size,6,none⟩ (by simp;omega) hnb6).trans ((Below.cell (B:=(v1.setCell ⟨w1.heap.size,4,none⟩ (.slice (some ⟨g',0,none⟩) (k+1) cap')).heap.size) (w:=(v1.setCell ⟨w1.heap.size,4,none⟩ (.slice (some ⟨g',0,none⟩) (k+1) cap'))) (a00 _ _) (p:=⟨w1.heap.size,6,none⟩) (by show w1.heap.size<_;omega)).trans c6)
   have f16:v3.frozen? ⟨w1.heap.size,6,none⟩=false:=(hgrow.frozen_far ⟨w1.heap.size,6,none⟩ (by simp;omega) hnb6).trans ((Below.frozen (B:=(v1.setCell ⟨w1.heap.size,4,none⟩ (.slice (some ⟨g',0,none⟩) (k+1) cap')).heap.size) (w:=(v1.setCell ⟨w1.heap.size,4,none⟩ (.slice (some ⟨g',0,none⟩) (k+1) cap'))) (a00 _ _) (p:=⟨w1.heap.size,6,none⟩) (by show w1.heap.size<_;omega)).trans fz6)
   have HG6:Hid (Grw 238 (v1.setCell ⟨w1.heap.size,4,none⟩ (.slice (some ⟨g',0,none⟩) (k+1) cap')) (v3.setCell ⟨w1.heap.size,6,none⟩ (.slice (some ⟨g2,0,none⟩) (k+1) cap2)) w1.heap.size 6 3 1 G.fa (k+1) (irow (refs (MNet.new g) k)++[.int .i64 0])):=a7g (t:=238) (i:=6) (u:=.slice G.fa k G.fc) HTy3.out (by decide) HFo3.out (a00 _ _) hgrow hat (by simp) hown c16
   have HSt:Hid _:=HP.out.step HB2.out HR.out HF'.out HG4.out HG6.out
   have HBf:Hid (Below w1.heap.size w1 (v3.setCell ⟨w1.heap.size,6,none⟩ (.slice (some ⟨g2,0,none⟩) (k+1) cap2))):=by
    have h1:=HBr.out.size
    have h2:=HB2.out.size
    have h3:=HG4.out.rest.size
    refine (HBr.out.trans (HB2.out.mono h1)).trans ((a5d HG4.out.rest (fun j hj=>?_) (by omega)).trans (a5d HG6.out.rest (fun j hj=>?_) (by omega)))
    ·rcases hj with e | hj
     ·omega
     ·exact HFz.out j (Or.inr (Or.inl hj))
    ·rcases hj with e | hj
     ·omega
     ·exact HFz.out j (Or.inr (Or.inr (Or.inr (Or.inl hj))))
   clear hown hgrow hat hlt2
   go_wp2_with fail
   go_roundw
   case rel =>
    obtain ⟨G',s1,s2⟩:=HSt.out
    refine ⟨k+1,G',by omega,by go_num,s1,fun j hj=>?_,HBf.out⟩
    rcases s2 j hj with h1 | h1
    ·exact HFz.out j h1
    ·have:=HBr.out.size
     omega
   case measure=>simp [intOf];omega
  ·have hkn':k=g.n:=by omega
   subst hkn'
   have HD:Hid _:=HP.out.done
   have HBe:Hid (Below w.heap.size w wr):=HB1.out.trans (HBr.out.mono HB1.out.size)
   have HFe:Hid (∀ j,G.foot w1.heap.size g.n j→w.heap.size≤j):=fun j hj=>Nat.le_trans HB1.out.size (HFz.out j hj)
   go_wp2_with fail
   go_ret2
   exact ⟨⟨_,fun j=>G.foot w1.heap.size g.n j,rfl,⟨G,HD.out,fun _ h=>h⟩,HFe.out⟩,HBe.out⟩
theorem b09 (N W B L:Int) (w:World) (hG:okG N W B L=false) :
  Calls Tryz.prog 121 #[.agg #[.int .i64 N,.int .i64 W,.int .i64 B,.int .i64 L]] w fun e w'=>e=.returned (.tuple #[.pointer none,.int .i64 1])∧Below w.heap.size w w':=by
 have HCk:Hid (∀ y,Calls Tryz.prog 158 #[.agg #[.int .i64 N,.int .i64 W,.int .i64 B,.int .i64 L]] y fun e w'=>e=.returned (.int .i64 1)∧Below y.heap.size y w'):=fun y=>by
  have h:=a14 N W B L y
  rw [hG] at h
  exact h
 clear hG
 go_enter Tryz.func121,Tryz.ntmps121
 go_wp2_with fail
 have HBX:Hid (Below w.heap.size w (w.alloc (.cells #[.int .i64 N,.int .i64 W,.int .i64 B,.int .i64 L] 26))):=a00 _ _
 generalize w.alloc (.cells #[.int .i64 N,.int .i64 W,.int .i64 B,.int .i64 L] 26)=X at *
 refine (show Calls _ _ _ _ _ from HCk.out X).mono ?_
 rintro e w1 ⟨rfl,hb1⟩
 have HB1:Hid (Below w.heap.size w w1):=bthen HBX.out hb1
 clear hb1
 go_wp2_with fail
 go_ret2
 exact ⟨rfl,HB1.out⟩
def PkOk (g:Gr) (t:Pk):Prop:=(∃ q:Nat,t.to=q∧q<g.n)∧t.text.size≤100∧rAll g.n g.W g.B g.L t.text=none
theorem ad3 {g:Gr} (hg:g.Ok) {y:Nat × Msg} (h1:y.1<g.n) (h2:y.2.Ok g):PkOk g (encP g y):=by
 obtain ⟨r1,r2,_⟩:=b3c hg h2
 exact ⟨⟨y.1,rfl,h1⟩,r2,r1⟩
theorem b1r {g:Gr} (hg:g.Ok) {p:Nat} (hp:p<g.n) {f:Fm} (hf:f.Ok g) (fr:Nat):∀ t∈(passM g p f fr).map (encP g),PkOk g t:=fun t ht=>by
 obtain ⟨y,hy,rfl⟩:=List.mem_map.1 ht
 obtain ⟨e1,e2,_⟩:=b1q hy
 exact ad3 hg e2 (by rw [e1];exact ⟨hp,hf⟩)
theorem b1x {g:Gr} (hg:g.Ok) {p:Nat} (hp:p<g.n) {s:NS} (hs:s.Ok g p):∀ t∈s.tick g p,PkOk g t:=fun t ht=>by
 rw [b5g] at ht
 obtain ⟨y,hy,rfl⟩:=List.mem_map.1 ht
 unfold tickM at hy
 obtain ⟨q,hq,hy⟩:=List.mem_flatMap.1 hy
 have hqn:=List.mem_range.1 hq
 split at hy
 ·cases hy
 ·rcases List.mem_append.1 hy with h1 | h1
  ·obtain ⟨f,hf,rfl⟩:=List.mem_map.1 h1
   exact ad3 hg hqn ⟨hp,hs.st f (List.mem_filter.1 hf).1⟩
  ·rw [List.mem_singleton] at h1
   subst h1
   exact ad3 hg hqn ⟨hp,hs.clk.shp.elen p hp,fun o ho=>hs.clk.bd p o hp ho⟩
structure b87 (g:Gr) (p:Nat) (s:NS) (t:ByteArray) (r:HR):Prop where
 ok:r.s.Ok g p
 five:r.k=5↔rAll g.n g.W g.B g.L t≠none
 range:r.k=0∨(5≤r.k∧r.k≤8)
 not:r.k≠0→r.s=s∧r.ps=[]
 ps:∀ t∈r.ps,PkOk g t
 few:r.ps.length≤g.n
theorem b0z {g:Gr} (hg:g.Ok) {p:Nat} (hp:p<g.n) {s:NS} (hs:s.Ok g p) (t:ByteArray):b87 g p s t (s.hear g p t):=by
 have h0:=hs.hear hp t
 have hnot:∀ {k:Nat},k≠5→¬ (k=5):=fun h=>h
 refine ⟨h0,?_,?_,?_,?_,?_⟩<;>unfold NS.hear<;>cases e:rAll g.n g.W g.B g.L t with
 | some v=>simp
 | none =>
  simp only
  have hK:s.newK g p (a1c g.n t)=0∨s.newK g p (a1c g.n t)=7∨s.newK g p (a1c g.n t)=8:=by
   unfold NS.newK
   split
   ·simp
   ·split
    ·simp
    ·split<;>simp
  have hps:byt t 2=1→(∀ u∈passL (textM g p (a1c g.n t)) p (byt t 5) (byt t 4) g.n,PkOk g u)∧(passL (textM g p (a1c g.n t)) p (byt t 5) (byt t 4) g.n).length≤g.n:=fun h2=>by
   obtain ⟨h5,h6⟩:=ac4 e h2
   have he:=af4 g p (a1c g.n t) (byt t 4)
   rw [show (a1c g.n t).org=((byt t 5:Nat):Int) from rfl] at he
   rw [he]
   exact ⟨b1r hg hp h5 _,by rw [List.length_map];exact ag3⟩
  generalize s.newK g p (a1c g.n t)=K at *
  by_cases h4:byt t 4=p
  ·simp [h4]
  ·by_cases h2:byt t 2=1
   ·have hps2:=hps h2
    by_cases h5:byt t 5=p
    ·simp [h4,h2,h5]
    ·by_cases hk0:K=0
     ·simp [h4,h2,h5,hk0]
      try exact hps2.1
      try exact hps2.2
     ·simp only [if_neg h4,if_pos h2,if_neg h5,if_neg hk0]
      first|(simp;done) | omega|(simp;omega)
   ·simp [h4,h2]
end Go.Proofs.YtabecbjfamphbaaGreatDoor
