/- A part of the proof. -/
import Derived.Test.YtabecbjfamphbaaGreatDoorM37
import Derived.Deep.CutRange
namespace Go.Proofs.YtabecbjfamphbaaGreatDoor
open Go.RowKit Go.Stop Go.Extern
set_option maxRecDepth 100000
set_option maxHeartbeats 2000000
theorem Tryz.b2v:(Tryz.prog.info? 34).map (fun i=>(i.zero,i.size,i.bytes))=some (some (.slice none 0 0),1,24):=by kernel_rfl
structure KeptI (w w':World) (b:Nat) (ad:Option Addr) (len:Nat) (xs:List Value) (ao:Option Addr) (n cp:Nat):Prop where
 how:∃ ad' cap' a1 c1 a2 c2 a3 c3,w'.cell? ⟨b,0,none⟩=some (.slice ad' (len+4) cap')∧w'.ownsRow 0 34 1 (.slice ad' (len+4) cap') (len+4) (xs++[.slice ao n cp,.slice a1 (n+1) c1,.slice a2 (n+2) c2,.slice a3 (n+3) c3])
  ∧ Mrk w' ao n cp 1 3 (mint len)∧Mrk w' a1 (n+1) c1 1 3 (mint len)∧Mrk w' a2 (n+2) c2 1 3 (mint len)∧Mrk w' a3 (n+3) c3 1 3 (mint len)
  ∧ (∀ k,onB a1 k∨onB a2 k∨onB a3 k→onB ao k∨w.heap.size≤k)∧(∀ k,onB ad' k→onB ad k∨w.heap.size≤k)
 rest:Alike w w' (fun k=>k=b∨onB ao k∨onB ad k)
 others:∀ j v,j≠0→w.cell? ⟨b,j,none⟩=some v→w'.cell? ⟨b,j,none⟩=some v
 ty:∃ cur,w'.heap[b]?=some (.cells cur 79 (0,0))
theorem ae4 (b:Nat) (ad:Option Addr) (len cap:Nat) (xs:List Value) (ao:Option Addr) (n cp:Nat) (hl:len≤1000000) (hn:n≤1000000) (hnc:n≤cp) (w:World) (hc:w.cell? ⟨b,0,none⟩=some (.slice ad len cap)) (hty:∃ cur,w.heap[b]?=some (.cells cur 79 (0,0))) (ho:w.ownsRow 0 34 1 (.slice ad len cap) len xs) (hM:Mrk w ao 0 cp 1 3 (mint len)) :
  Calls Tryz.prog 118 #[.pointer (some ⟨b,0,none⟩),.slice ao n cp] w fun e w'=>e=.returned (.tuple #[])∧KeptI w w' b ad len xs ao n cp:=by
 have HC:Hid (w.cell? ⟨b,0,none⟩=some (.slice ad len cap)):=hc
 have HTy:Hid _:=hty
 have HO:Hid _:=ho
 have HM0:Hid (Mrk w ao 0 cp 1 3 (mint len)):=hM
 have HMk:Hid (∀ x,Calls Tryz.prog 133 #[.int .i64 (len:Int)] x fun e w'=>e=.returned (.int .i64 (-1000-(len:Int)))∧w'=x):=fun x=>a1g (len:Int) x (by omega) (by omega)
 have HMc:Hid (mint len=[.int .i64 (-1000-(len:Int))]):=rfl
 have HMl:Hid ((mint len).length=1):=rfl
 obtain ⟨mm,hmm⟩:∃ mm:Int,mm = -1000-(len:Int):=⟨_,rfl⟩
 rw [←hmm] at HMk HMc
 clear hmm hM ho hty
 generalize hmw:mint len=mc at *
 have HMw:Hid (mint len=mc):=hmw
 clear hmw
 go_enter Tryz.func118,Tryz.ntmps118
 go_wp2_with fail
 refine (show Calls _ _ _ _ _ from HMk.out w).mono ?_
 rintro e w1 ⟨rfl,rfl⟩
 have HX:Hid (Below w1.heap.size w1 w1):=Below.refl _ _
 clear hc
 go_wp2_with fail
 go_loopw [5] (fun c wr=>∃ k:Nat,k≤n∧c=.int .i64 k∧Mrk wr ao k cp 1 3 mc∧Alike w1 wr (onB ao)) (fun c _=>n-(intOf c).toNat)
 case atStart=>exact ⟨0,Nat.zero_le _,rfl,HM0.out,Alike.refl _ _⟩
 case round =>
  obtain ⟨k,hkn,rfl,hMk,hAk⟩:=hrel
  have HMr:Hid _:=hMk
  have HAr:Hid (Alike w1 wr (onB ao)):=hAk
  by_cases hlt:k<n
  ·have hki:(k:Int)<(n:Int):=by omega
   rcases hMk with ⟨_,_,h0⟩ | ⟨g,rfl,⟨cur,hh,hcz⟩,hkc,_⟩
   ·omega
   ·obtain ⟨u0,d0⟩:∃ u,wr.cell? ⟨g,k,none⟩=some u:=⟨cur[k]'(by omega),by rw [cell_of_row wr g _ cur _ (0,0) hh];exact Array.getElem?_eq_getElem _⟩
    have f0:wr.frozen? ⟨g,k,none⟩=false:=frozen_of_row wr g _ cur _ hh
    have HMn:Hid (Mrk (wr.setCells g (k * 1) mc) (some ⟨g,0,none⟩) (k+1) cp 1 3 mc):=Mrk.store HMl.out HMr.out (by omega)
    have HAn:Hid (Alike w1 (wr.setCells g (k * 1) mc) (onB (some ⟨g,0,none⟩))):=HAr.out.trans (a1i g mc (k * 1) wr) (fun j _ h=>⟨0,by rw [h]⟩)
    have HEq:Hid (wr.setCells g (k * 1) mc=wr.setCell ⟨g,k,none⟩ (.int .i64 mm)):=by show _=_;rw [HMc.out,Nat.mul_one];rfl
    rw [HEq.out] at HMn HAn
    clear hh hcz hkc hAk
    go_wp2_with fail
    go_roundw
    case rel=>exact ⟨k+1,by omega,by go_num,HMn.out,HAn.out⟩
    case measure=>simp [intOf];omega
  ·have hkn':k=n:=by omega
   subst hkn'
   clear hMk hAk
   obtain ⟨i0,hi,hz0,hz1,hz2⟩:=info_parts Tryz.a3d
   have HOne:Hid (∀ u∈mc,u.oneCell'=true):=by
    rw [HMc.out]
    intro u hu
    simp at hu
    subst hu
    rfl
   have HNw1:Hid (∀ (y:World) (B:Nat),y.heap[B]?=some (.cells #[.int .i64 mm] 3 (0,0))→∀ j u,(marks 1 mc)[j]?=some u→y.cell? ((⟨B,0,none⟩:Addr).add j)=some u):=fun y B hB=>by rw [HMc.out];exact World.news_of_block hB
   have HNw2:Hid (∀ (y:World) (B:Nat),y.heap[B]?=some (.cells #[.int .i64 mm,.int .i64 mm] 3 (0,0))→∀ j u,(marks 2 mc)[j]?=some u→y.cell? ((⟨B,0,none⟩:Addr).add j)=some u):=fun y B hB=>by rw [HMc.out];exact World.news_of_block hB
   have HNw3:Hid (∀ (y:World) (B:Nat),y.heap[B]?=some (.cells #[.int .i64 mm,.int .i64 mm,.int .i64 mm] 3 (0,0))→∀ j u,(marks 3 mc)[j]?=some u→y.cell? ((⟨B,0,none⟩:Addr).add j)=some u):=fun y B hB=>by rw [HMc.out];exact World.news_of_block hB
   have HT1:Hid (Mrk (wr.alloc (.cells #[.int .i64 mm] 3)) ao k cp 1 3 mc):=Mrk.low (show Mrk wr ao k cp 1 3 mc from HMr.out) (Alike.alloc wr (.cells #[.int .i64 mm] 3) (fun _=>False)) (fun _ _ h=>h)
   have HU1:Hid (∀ j u,(marks 1 mc)[j]?=some u→(wr.alloc (.cells #[.int .i64 mm] 3)).cell? ((⟨wr.heap.size,0,none⟩:Addr).add j)=some u):=HNw1.out _ _ (heap_alloc_new _ _)
   go_wp2_with (at_builtin;refine a0f _ rfl (.tmp 25) (.tmp 27) 34 rfl 3 i0 _ 1 8 Tryz.underlying34 hi hz0 hz1 hz2 rfl (by decide) ao k cp mc HMl.out HOne.out rfl HT1.out ⟨wr.heap.size,0,none⟩ 1 1 rfl (show ∀ j u,(marks 1 mc)[j]?=some u→_ from HU1.out) (by decide) (by unfold maxLen;omega) (by omega) ?_)
   intro g1 c1 v1 hM1 hall1 hA1 hg1
   have HAll1:Hid (∀ a' n' cap',Mrk wr a' n' cap' 1 3 mc→Mrk v1 a' n' cap' 1 3 mc):=fun a' n' cap' h=>hall1 _ _ _ (h.low (Alike.alloc _ _ (fun _=>False)) (fun _ _ h=>h))
   have HM1:Hid (Mrk v1 (some ⟨g1,0,none⟩) (k+1) c1 1 3 mc):=hM1
   have HMa1:Hid (Mrk v1 ao k cp 1 3 mc):=HAll1.out _ _ _ HMr.out
   have HA1:Hid (Alike w1 v1 (onB ao)):=HAr.out.trans ((Alike.alloc _ _ _).trans hA1 (fun _ _ h=>h)) (fun _ _ h=>h)
   have HG1:Hid (onB ao g1∨w1.heap.size≤g1):=hg1.elim Or.inl (fun h=>Or.inr (by have:=HAr.out.size;omega))
   clear hM1 hall1 hA1 hg1
   have HT2:Hid (Mrk (v1.alloc (.cells #[.int .i64 mm,.int .i64 mm] 3)) ao k cp 1 3 mc):=Mrk.low (show Mrk v1 ao k cp 1 3 mc from HMa1.out) (Alike.alloc v1 (.cells #[.int .i64 mm,.int .i64 mm] 3) (fun _=>False)) (fun _ _ h=>h)
   have HU2:Hid (∀ j u,(marks 2 mc)[j]?=some u→(v1.alloc (.cells #[.int .i64 mm,.int .i64 mm] 3)).cell? ((⟨v1.heap.size,0,none⟩:Addr).add j)=some u):=HNw2.out _ _ (heap_alloc_new _ _)
   go_wp2_with (at_builtin;refine a0f _ rfl (.tmp 29) (.tmp 32) 34 rfl 3 i0 _ 1 8 Tryz.underlying34 hi hz0 hz1 hz2 rfl (by decide) ao k cp mc HMl.out HOne.out rfl HT2.out ⟨v1.heap.size,0,none⟩ 2 2 rfl (show ∀ j u,(marks 2 mc)[j]?=some u→_ from HU2.out) (by decide) (by unfold maxLen;omega) (by omega) ?_)
   intro g2 c2 v2 hM2 hall2 hA2 hg2
   have HAll2:Hid (∀ a' n' cap',Mrk v1 a' n' cap' 1 3 mc→Mrk v2 a' n' cap' 1 3 mc):=fun a' n' cap' h=>hall2 _ _ _ (h.low (Alike.alloc _ _ (fun _=>False)) (fun _ _ h=>h))
   have HM2:Hid (Mrk v2 (some ⟨g2,0,none⟩) (k+2) c2 1 3 mc):=hM2
   have HMa2:Hid (Mrk v2 ao k cp 1 3 mc):=HAll2.out _ _ _ HMa1.out
   have HA2:Hid (Alike w1 v2 (onB ao)):=HA1.out.trans ((Alike.alloc _ _ _).trans hA2 (fun _ _ h=>h)) (fun _ _ h=>h)
   have HG2:Hid (onB ao g2∨w1.heap.size≤g2):=hg2.elim Or.inl (fun h=>Or.inr (by have:=HA1.out.size;omega))
   clear hM2 hall2 hA2 hg2
   have HT3:Hid (Mrk (v2.alloc (.cells #[.int .i64 mm,.int .i64 mm,.int .i64 mm] 3)) ao k cp 1 3 mc):=Mrk.low (show Mrk v2 ao k cp 1 3 mc from HMa2.out) (Alike.alloc v2 (.cells #[.int .i64 mm,.int .i64 mm,.int .i64 mm] 3) (fun _=>False)) (fun _ _ h=>h)
   have HU3:Hid (∀ j u,(marks 3 mc)[j]?=some u→(v2.alloc (.cells #[.int .i64 mm,.int .i64 mm,.int .i64 mm] 3)).cell? ((⟨v2.heap.size,0,none⟩:Addr).add j)=some u):=HNw3.out _ _ (heap_alloc_new _ _)
   go_wp2_with (at_builtin;refine a0f _ rfl (.tmp 34) (.tmp 38) 34 rfl 3 i0 _ 1 8 Tryz.underlying34 hi hz0 hz1 hz2 rfl (by decide) ao k cp mc HMl.out HOne.out rfl HT3.out ⟨v2.heap.size,0,none⟩ 3 3 rfl (show ∀ j u,(marks 3 mc)[j]?=some u→_ from HU3.out) (by decide) (by unfold maxLen;omega) (by omega) ?_)
   intro g3 c3 v3 hM3 hall3 hA3 hg3
   have HAll3:Hid (∀ a' n' cap',Mrk v2 a' n' cap' 1 3 mc→Mrk v3 a' n' cap' 1 3 mc):=fun a' n' cap' h=>hall3 _ _ _ (h.low (Alike.alloc _ _ (fun _=>False)) (fun _ _ h=>h))
   have HM3:Hid (Mrk v3 (some ⟨g3,0,none⟩) (k+3) c3 1 3 mc):=hM3
   have HMa3:Hid (Mrk v3 ao k cp 1 3 mc):=HAll3.out _ _ _ HMa2.out
   have HA3:Hid (Alike w1 v3 (onB ao)):=HA2.out.trans ((Alike.alloc _ _ _).trans hA3 (fun _ _ h=>h)) (fun _ _ h=>h)
   have HG3:Hid (onB ao g3∨w1.heap.size≤g3):=hg3.elim Or.inl (fun h=>Or.inr (by have:=HA2.out.size;omega))
   clear hM3 hall3 hA3 hg3
   clear hi hz0 hz1 hz2
   have HnB:Hid (¬ onB ao b):=fun h=>by
    obtain ⟨cur,e⟩:=HTy.out
    obtain ⟨_,cur',e'⟩:=HM0.out.lt h
    exact ty_ne e e' (by decide) rfl
   have HnR:Hid (∀ j,onB ad j→¬ onB ao j):=fun j h h'=>by
    obtain ⟨cur,e⟩:=a02 HO.out h
    obtain ⟨_,cur',e'⟩:=HM0.out.lt h'
    exact ty_ne e e' (by decide) rfl
   have HAw:Hid (Alike w1 v3 (onB ao)):=(Alike.of_below HX.out _).trans HA3.out (fun _ _ h=>h)
   have cw:v3.cell? ⟨b,0,none⟩=some (.slice ad len cap):=HAw.out.cell HC.out HnB.out
   have HO3:Hid (v3.ownsRow 0 34 1 (.slice ad len cap) len xs):=a07 HO.out HAw.out (fun j hj=>HnR.out j hj)
   have HTy3:Hid (∃ cur,v3.heap[b]?=some (.cells cur 79 (0,0))):=by
    obtain ⟨cur,e⟩:=HTy.out
    exact ⟨cur,(HAw.out.block b (lt_of_some e) HnB.out).trans e⟩
   have fz:=a0h HTy3.out 0
   obtain ⟨i1,hi,hz0,hz1,hz2⟩:=info_parts Tryz.b2v
   have HT4:Hid ((v3.alloc (.cells #[.slice ao k cp,.slice (some ⟨g1,0,none⟩) (k+1) c1,.slice (some ⟨g2,0,none⟩) (k+2) c2,.slice (some ⟨g3,0,none⟩) (k+3) c3] 34)).ownsRow 0 34 1 (.slice ad len cap) len xs):=World.ownsRow.alloc HO3.out _
   have HOne4:Hid (∀ u∈([.slice ao k cp,.slice (some ⟨g1,0,none⟩) (k+1) c1,.slice (some ⟨g2,0,none⟩) (k+2) c2,.slice (some ⟨g3,0,none⟩) (k+3) c3]:List Value),u.oneCell'=true):=by
    intro u hu
    simp at hu
    rcases hu with rfl | rfl | rfl | rfl<;>rfl
   have hbX:b<v3.heap.size:=lt_of_cell cw
   have hnb:some b≠(Value.slice ad len cap).ownBlock:=fun he=>by
    obtain ⟨cur,e⟩:=HTy3.out
    obtain ⟨_,e'⟩:=a02 HO3.out (a1d HO3.out he.symm)
    exact ty_ne e e' (by decide) rfl
   go_wp2_with (at_builtin;refine wpList_append_lies _ rfl (.tmp 44) (.tmp 49) 71 rfl 0 34 i1 _ 1 24 Tryz.underlying71 hi hz0 hz1 hz2 rfl (by decide) (.slice ad len cap) len xs rfl HT4.out ⟨v3.heap.size,0,none⟩ 4 4 [.slice ao k cp,.slice (some ⟨g1,0,none⟩) (k+1) c1,.slice (some ⟨g2,0,none⟩) (k+2) c2,.slice (some ⟨g3,0,none⟩) (k+3) c3] rfl rfl (World.news_of_block (heap_alloc_new v3 _)) HOne4.out (by decide) (by unfold maxLen;omega) (by omega) (Nat.zero_le _) _ rfl ?_)
   intro g4 c4 v4 hown hgrow hat hlt4
   have c11:v4.cell? ⟨b,0,none⟩=some (.slice ad len cap):=(hgrow.cell_far ⟨b,0,none⟩ (by simp;omega) hnb).trans ((Below.cell (B:=v3.heap.size) (w:=v3) (a00 _ _) (p:=⟨b,0,none⟩) hbX).trans cw)
   have f11:v4.frozen? ⟨b,0,none⟩=false:=(hgrow.frozen_far ⟨b,0,none⟩ (by simp;omega) hnb).trans ((Below.frozen (B:=v3.heap.size) (w:=v3) (a00 _ _) (p:=⟨b,0,none⟩) hbX).trans fz)
   have HA4:Hid (Alike v3 v4 (onB ad)):=(Alike.alloc v3 _ _).trans (Alike.a2h hgrow) (fun j _ h=>a1d HO3.out h)
   have HG4:Hid (onB ad g4∨w1.heap.size≤g4):=by
    rcases hat with h | h
    ·exact Or.inl (a1d HO3.out h)
    ·refine Or.inr ?_
     have:=HAw.out.size
     first | omega|(simp at h;omega)
   have HO4:Hid (v4.ownsRow 0 34 1 (.slice (some ⟨g4,0,none⟩) (len+4) c4) (len+4) (xs++[.slice ao k cp,.slice (some ⟨g1,0,none⟩) (k+1) c1,.slice (some ⟨g2,0,none⟩) (k+2) c2,.slice (some ⟨g3,0,none⟩) (k+3) c3])):=hown
   clear hown hgrow hat hlt4 cw fz hnb
   go_wp2_with fail
   refine bodyPost_end (v:=.tuple #[]) (by simp [results,Tryz.results118,go_sem]) rfl ⟨rfl,?_⟩
   obtain ⟨curb,hcb⟩:=HTy3.out
   have hnadb:¬ onB ad b:=fun h=>by
    obtain ⟨_,e⟩:=a02 HO3.out h
    exact ty_ne e hcb (by decide) rfl
   have hset:=Alike.setCell v4 ⟨b,0,none⟩ (.slice (some ⟨g4,0,none⟩) (len+4) c4)
   have h34:Alike v3 (v4.setCell ⟨b,0,none⟩ (.slice (some ⟨g4,0,none⟩) (len+4) c4)) (fun j=>j=b∨onB ad j):=((Alike.refl v3 _).trans HA4.out (fun _ _ h=>Or.inr h)).trans hset (fun _ _ h=>Or.inl h)
   have hb4:v4.heap[b]?=some (.cells curb 79 (0,0)):=(HA4.out.block b (lt_of_some hcb) hnadb).trans hcb
   have hmk:∀ a' n' cap',Mrk v3 a' n' cap' 1 3 mc→Mrk (v4.setCell ⟨b,0,none⟩ (.slice (some ⟨g4,0,none⟩) (len+4) c4)) a' n' cap' 1 3 mc:=fun a' n' cap' h=>h.low h34 (fun j hj hor=>by
    obtain ⟨_,cur,e⟩:=h.lt hj
    rcases hor with rfl | hr
    ·exact ty_ne e hcb (by decide) rfl
    ·obtain ⟨_,e'⟩:=a02 HO3.out hr
     exact ty_ne e e' (by decide) rfl)
   have zX:=HX.out.size
   have hgb:g4≠b:=fun h=>by
    subst h
    obtain ⟨_,e⟩:=a02 HO4.out ⟨0,rfl⟩
    exact ty_ne e hb4 (by decide) rfl
   have hnew:∀ g,(onB ao g∨w1.heap.size≤g)→∀ j,onB (some ⟨g,0,none⟩) j→onB ao j∨w1.heap.size≤j:=fun g hg j hj=>by
    obtain ⟨off,hj⟩:=hj
    cases hj
    exact hg.elim Or.inl (fun h=>Or.inr (by omega))
   refine ⟨⟨some ⟨g4,0,none⟩,c4,some ⟨g1,0,none⟩,c1,some ⟨g2,0,none⟩,c2,some ⟨g3,0,none⟩,c3,?_,?_,?_,?_,?_,?_,?_,?_⟩,?_,?_,?_⟩
   ·go_simp
   ·exact a07 HO4.out hset (fun j ⟨off,hj⟩ he=>by cases hj;exact hgb he)
   ·rw [HMw.out];exact hmk _ _ _ HMa3.out
   ·rw [HMw.out];exact hmk _ _ _ (HAll3.out _ _ _ (HAll2.out _ _ _ HM1.out))
   ·rw [HMw.out];exact hmk _ _ _ (HAll3.out _ _ _ HM2.out)
   ·rw [HMw.out];exact hmk _ _ _ HM3.out
   ·rintro j (h | h | h)
    ·exact hnew g1 HG1.out j h
    ·exact hnew g2 HG2.out j h
    ·exact hnew g3 HG3.out j h
   ·rintro j ⟨off,hj⟩
    cases hj
    exact HG4.out
   ·exact ((Alike.refl w1 _).trans HAw.out (fun _ _ h=>Or.inr (Or.inl h))).trans h34 (fun _ _ h=>h.elim Or.inl (fun h=>Or.inr (Or.inr h)))
   ·intro j v hj hv
    have h2:v4.cell? ⟨b,j,none⟩=some v:=HA4.out.cell (HAw.out.cell hv HnB.out) hnadb
    have hj':¬ j=0:=hj
    have hj2:¬ 0=j:=fun h=>hj h.symm
    go_simp
   ·exact ⟨_,heap_setCell_same v4 b 0 curb _ _ hb4⟩
theorem a0m.noPk {w:World} {b:Nat} {g:Gr} {p:Nat} {s:NS} {F:Nat→Prop} (h:a0m w b g p s F) {k:Nat} (hk:F k):∃ cur t,w.heap[k]?=some (.cells cur t (0,0))∧t≠109:=by
 obtain ⟨G,fs,h1,_,_,h4⟩:=h
 rcases (h4 k).1 hk with rfl | rfl | hk | hk | hk | ⟨f,hf,hk⟩
 ·obtain ⟨cur,e⟩:=h1.nb.ty;exact ⟨cur,_,e,by decide⟩
 ·obtain ⟨cur,e⟩:=h1.nv.ty;exact ⟨cur,_,e,by decide⟩
 ·obtain ⟨q,hq,rfl⟩:=ap7 h1.nv hk
  exact ⟨_,_,h1.nv.each q hq,by decide⟩
 ·obtain ⟨cur,e⟩:=h1.ab6 hk;exact ⟨cur,_,e,by decide⟩
 ·obtain ⟨cur,e⟩:=h1.a6m hk;exact ⟨cur,_,e,by decide⟩
 ·obtain ⟨cur,e⟩:=(h1.vec f hf).1.block hk;exact ⟨cur,_,e,by decide⟩
theorem RefAt.tight {w:World} {b:Nat} {g:Gr} {p:Nat} {s:NS} {m:Nat} {F:Nat→Prop} (h:RefAt w b g p s m F):∃ F0,(∀ k,F0 k→F k)∧RefAt w b g p s m F0∧F0 b∧∀ k,F0 k→∃ cur t,w.heap[k]?=some (.cells cur t (0,0))∧t≠109∧t≠89:=by
 obtain ⟨r,G,h1,h2,h3,h4,h5⟩:=h
 refine ⟨fun k=>G.foot b k,h5,⟨r,G,h1,h2,h3,h4,fun _ h=>h⟩,Or.inl rfl,fun k hk=>?_⟩
 rcases hk with rfl | hk | hk | hk | ⟨f,hf,hk⟩ | ⟨f,hf,hk⟩
 ·obtain ⟨cur,e⟩:=h1.nd.ty;exact ⟨cur,_,e,by decide,by decide⟩
 ·obtain ⟨cur,e⟩:=a02 h1.nd.wo.own hk;exact ⟨cur,_,e,by decide,by decide⟩
 ·obtain ⟨cur,e⟩:=a02 h1.nd.ho hk;exact ⟨cur,_,e,by decide,by decide⟩
 ·obtain ⟨cur,e⟩:=a02 h1.nd.tt.own hk;exact ⟨cur,_,e,by decide,by decide⟩
 ·obtain ⟨cur,e⟩:=(h1.fv f hf).block hk;exact ⟨cur,_,e,by decide,by decide⟩
 ·obtain ⟨cur,e⟩:=(h1.sv f hf).block hk;exact ⟨cur,_,e,by decide,by decide⟩
structure Grw (t:TypeId) (w w':World) (b i:Nat) (e:TypeId) (sz:Nat) (ad:Option Addr) (len:Nat) (xs:List Value):Prop where
 how:∃ ad' cap',w'.cell? ⟨b,i,none⟩=some (.slice ad' len cap')∧w'.ownsRow 0 e sz (.slice ad' len cap') len xs∧∀ k,onB ad' k→onB ad k∨w.heap.size≤k
 rest:Alike w w' (fun k=>k=b∨onB ad k)
 others:∀ j v,j≠i→w.cell? ⟨b,j,none⟩=some v→w'.cell? ⟨b,j,none⟩=some v
 ty:∃ cur,w'.heap[b]?=some (.cells cur t (0,0))
theorem a7g {t:TypeId} {w x w1:World} {b i g cap:Nat} {e:TypeId} {sz:Nat} {ad:Option Addr} {len lcap n:Nat} {xs ys:List Value} {u:Value} {H:Nat} (ht:∃ cur,w.heap[b]?=some (.cells cur t (0,0))) (he:e≠t) (ho:w.ownsRow 0 e sz (.slice ad len lcap) len xs) (hb:Below w.heap.size w x) (hgr:x.grownBy w1 (Value.slice ad len lcap).ownBlock) (hat:(Value.slice ad len lcap).ownBlock=some g∨g=H) (hH:w.heap.size≤H)
  (how:w1.ownsRow 0 e sz (.slice (some ⟨g,0,none⟩) n cap) n ys) (hc:w1.cell? ⟨b,i,none⟩=some u) :
  Grw t w (w1.setCell ⟨b,i,none⟩ (.slice (some ⟨g,0,none⟩) n cap)) b i e sz ad n ys:=by
 obtain ⟨cur,ht⟩:=ht
 have hbl:=lt_of_some ht
 have hnb:¬ onB ad b:=fun hk=>by
  obtain ⟨c,hh⟩:=a02 ho hk
  exact ty_ne hh ht he rfl
 have h1:Alike w w1 (onB ad):=(Alike.of_below hb _).trans (Alike.a2h hgr) (fun k _ hk=>a1d ho hk)
 have hty:w1.heap[b]?=some (.cells cur t (0,0)):=(h1.block b hbl hnb).trans ht
 have hset:=Alike.setCell w1 ⟨b,i,none⟩ (.slice (some ⟨g,0,none⟩) n cap)
 have hgn:onB ad g∨w.heap.size≤g:=by
  rcases hat with h | h
  ·exact Or.inl (a1d ho h)
  ·exact Or.inr (by omega)
 have hgb:g≠b:=fun h=>by
  subst h
  rcases hgn with h | h
  ·exact hnb h
  ·omega
 refine ⟨⟨some ⟨g,0,none⟩,cap,?_,a07 how hset (fun k ⟨off,hk⟩ he=>?_),fun k ⟨off,hk⟩=>?_⟩,((Alike.refl w _).trans h1 (fun k _ h=>Or.inr h)).trans hset (fun k _ h=>Or.inl h),fun j v hj hv=>?_,⟨_,heap_setCell_same w1 b i cur _ _ hty⟩⟩
 ·go_simp
 ·cases hk
  exact hgb he
 ·cases hk
  exact hgn
 ·have h2:w1.cell? ⟨b,j,none⟩=some v:=h1.cell hv hnb
  have hj':¬ j=i:=hj
  have hj2:¬ i=j:=fun h=>hj h.symm
  go_simp
theorem Grw.trans {t:TypeId} {w w1 w2:World} {b i:Nat} {e:TypeId} {sz:Nat} {ad ad1:Option Addr} {len1 len2:Nat} {ys:List Value} (hr:Alike w w1 (fun k=>k=b∨onB ad k)) (ho:∀ j v,j≠i→w.cell? ⟨b,j,none⟩=some v→w1.cell? ⟨b,j,none⟩=some v) (hn:∀ k,onB ad1 k→onB ad k∨w.heap.size≤k) (h:Grw t w1 w2 b i e sz ad1 len2 ys) (_hl:len1≤len2):Grw t w w2 b i e sz ad len2 ys:=by
 obtain ⟨⟨ad',cap',h1,h2,h3⟩,h4,h5,h6⟩:=h
 have hs:=hr.size
 refine ⟨⟨ad',cap',h1,h2,fun k hk=>?_⟩,hr.trans h4 (fun k hk h=>?_),fun j v hj hv=>h5 j v hj (ho j v hj hv),h6⟩
 ·rcases h3 k hk with h | h
  ·exact hn k h
  ·exact Or.inr (by omega)
 ·rcases h with h | h
  ·exact Or.inl h
  ·rcases hn k h with h | h
   ·exact Or.inr h
   ·omega
def txrow (ts:List ByteArray):List Value:=ts.map Value.string
theorem am2 (a b:List ByteArray):txrow (a++b)=txrow a++txrow b:=by simp [txrow]
theorem Tryz.b77:(Tryz.prog.info? 9).map (fun i=>(i.zero,i.size,i.bytes))=some (some (.string ⟨#[]⟩),1,16):=by kernel_rfl
theorem ar6 {w:World} {z n cp sz:Nat} {e:TypeId} {ao:Option Addr} {xs mc:List Value} (h:w.ownsRow z e sz (.slice ao n cp) n xs):n≤cp∧Mrk w ao 0 cp sz e mc:=by
 rcases h.2 with ⟨he,h0⟩ | ⟨g,cap,cur,he,hg,hh,hnc,hcm,hcs,htk⟩
 ·cases he
  exact ⟨by omega,Or.inl ⟨rfl,rfl,rfl⟩⟩
 ·cases he
  exact ⟨hnc,Or.inr ⟨g,rfl,⟨cur,hh,by rw [hcs];exact Nat.le_refl _⟩,Nat.zero_le _,fun k hk=>absurd hk (Nat.not_lt_zero _)⟩⟩
theorem b5o (b:Nat) (ta:Option Addr) (tc:Nat) (ts:List ByteArray) (ad:Option Addr) (len cap:Nat) (xs:List Value) (bl bk:Nat) (ao ak:Option Addr) (cp ck:Nat) (ps:List Pk) (hl:len≤1000000) (hps:ps.length≤1000000) (htl:ts.length+ps.length≤1000000000) (w:World) (hty:∃ cur,w.heap[b]?=some (.cells cur 79 (0,0))) (c5:w.cell? ⟨b,5,none⟩=some (.slice ta ts.length tc)) (hts:w.ownsRow 0 9 1 (.slice ta ts.length tc) ts.length (txrow ts)) (c2:w.cell? ⟨b,2,none⟩=some (.slice ad len cap)) (hxs:w.ownsRow 0 54 1 (.slice ad len cap) len xs) (hlp:Pks w bl (.slice ao ps.length cp) ps) (hkp:Pks w bk (.slice ak ps.length ck) ps) :
  Calls Tryz.prog 109 #[.pointer (some ⟨b,0,none⟩),.slice ao ps.length cp,.slice ak ps.length ck] w fun e w'=>e=.returned (.bool true)∧∃ w1,Grw 79 w w1 b 5 9 1 ta (ts.length+ps.length) (txrow (ts++ps.map Pk.text))∧KeptP w1 w' b ad len xs ao ps.length cp:=by
 have HSm:Hid _:=a7r bl bk ao ak cp ck ps hps w hlp hkp
 have HTy:Hid _:=hty
 have HTs:Hid _:=hts
 have HC5:Hid _:=c5
 have HC2:Hid _:=c2
 have HXs:Hid _:=hxs
 have HL0:Hid _:=a3g hlp.own (Nat.zero_le bl)
 have HK0:Hid _:=a3g hkp.own (Nat.zero_le bk)
 have HPn:Hid (∀ (a':Option Addr) (n c:Nat) (zs:List Value) (t:TypeId) (sz:Nat),t≠79→t≠9→w.ownsRow 0 t sz (.slice a' n c) n zs→∀ k,onB a' k→¬ (k=b∨onB ta k)):=fun a' n c zs t sz h1 h2 ho k hk hor=>by
  obtain ⟨_,e⟩:=a02 ho hk
  rcases hor with rfl | h
  ·obtain ⟨_,e'⟩:=hty
   exact ty_ne e e' h1 rfl
  ·obtain ⟨_,e'⟩:=a02 hts h
   exact ty_ne e e' h2 rfl
 clear hlp hkp hty hts hxs c5 c2
 go_enter Tryz.func109,Tryz.ntmps109
 go_wp2_with fail
 refine (show Calls _ _ _ _ _ from HSm.out).mono ?_
 rintro e X ⟨rfl,hbX⟩
 have HG0:Hid (Grw 79 w X b 5 9 1 ta (ts.length+0) (txrow (ts++(ps.take 0).map Pk.text))):=by
  have ha:Alike w X (fun k=>k=b∨onB ta k):=Alike.of_below hbX _
  obtain ⟨cur,e⟩:=HTy.out
  refine ⟨⟨ta,tc,(hbX.cell (p:=⟨b,5,none⟩) (lt_of_cell HC5.out)).trans HC5.out,?_,fun k hk=>Or.inl hk⟩,ha,fun j v _ hv=>(hbX.cell (p:=⟨b,j,none⟩) (lt_of_cell hv)).trans hv,⟨cur,(hbX.block b (lt_of_some e)).trans e⟩⟩
  simpa using a1a HTs.out hbX
 clear hbX
 obtain ⟨i0,hi,hz0,hz1,hz2⟩:=info_parts Tryz.b77
 go_wp2_with fail
 go_loopw [8] (fun c wr=>∃ k:Nat,k≤ps.length∧c=.int .i64 k∧Grw 79 w wr b 5 9 1 ta (ts.length+k) (txrow (ts++(ps.take k).map Pk.text))) (fun c _=>ps.length-(intOf c).toNat)
 case atStart=>exact ⟨0,Nat.zero_le _,rfl,HG0.out⟩
 case round =>
  obtain ⟨k,hkn,rfl,hG⟩:=hrel
  have HG:Hid _:=hG
  by_cases hlt:k<ps.length
  ·have hki:(k:Int)<(ps.length:Int):=by omega
   obtain ⟨t,ht⟩:∃ t,ps[k]?=some t:=⟨ps[k],List.getElem?_eq_getElem _⟩
   have hkp:Pks wr 0 (.slice ak ps.length ck) ps:=⟨a07 HK0.out hG.rest (fun j hj=>HPn.out _ _ _ _ _ _ (by decide) (by decide) HK0.out j hj)⟩
   obtain ⟨gk,hgk,_,d0,d1⟩:=hkp.get ht
   subst hgk
   obtain ⟨ta',tc',c5,hown,hnew⟩:=hG.how
   have HNx:Hid (txrow (ts++(ps.take (k+1)).map Pk.text)=txrow (ts++(ps.take k).map Pk.text)++[.string t.text]):=by
    show _=_
    rw [a3s ht,List.map_append,←List.append_assoc,am2 (ts++_)]
    rfl
   have HNew:Hid (∀ j,onB ta' j→onB ta j∨w.heap.size≤j):=hnew
   have HTyr:Hid _:=hG.ty
   have hnb:some b≠(Value.slice ta' (ts.length+k) tc').ownBlock:=fun he=>by
    obtain ⟨cur,e⟩:=HTyr.out
    obtain ⟨_,e'⟩:=a02 hown (a1d hown he.symm)
    exact ty_ne e e' (by decide) rfl
   have fz:=a0h HTyr.out 5
   have hbX:b<wr.heap.size:=lt_of_cell c5
   have HOw:Hid _:=hown
   have HO:Hid (∀ x:World,Below wr.heap.size wr x→x.ownsRow 0 9 1 (.slice ta' (ts.length+k) tc') (ts.length+k) (txrow (ts++(ps.take k).map Pk.text))):=fun x hx=>a1a hown hx
   obtain ⟨tn,tx⟩:=t
   simp only at d0 d1 HNx
   have hone:∀ u∈([.string tx]:List Value),u.oneCell'=true:=by
    intro u hu
    simp at hu
    subst hu
    rfl
   have htlen:ts.length+k≤1000000000:=by omega
   obtain ⟨tlen,htlen'⟩:∃ tlen,tlen=ts.length+k:=⟨_,rfl⟩
   have HTl:Hid (tlen=ts.length+k):=htlen'
   rw [←htlen'] at c5 hnb HO HOw htlen
   generalize hxs':txrow (ts++(ps.take k).map Pk.text)=xs' at *
   clear hG hown hnew ht hkp htlen'
   go_wp2_with fail
   go_region_law
    (refine step_append_lies _ rfl (.tmp 22) (.tmp 28) 77 rfl 0 9 i0 _ 1 16 Tryz.underlying77 hi hz0 hz1 hz2 rfl (by decide) (.slice ta' tlen tc') tlen xs' (by simp [Act.eval]) (HO.out _ (by first | exact (a00 _ _).drew | exact ((Below.refl _ _).drew).trans (a00 _ _) | exact a00 _ _)) ⟨wr.heap.size,0,none⟩ 1 1 [.string tx] (by simp [Act.eval]) rfl (World.news_of_block (heap_alloc_new wr _)) hone (by decide) (by unfold maxLen;omega) (by omega) (Nat.zero_le _) _ rfl ?_;intro g' cap' v1 hown hgrow hat hlt2;have HO1:Hid (World.ownsRow v1 0 9 1 (.slice (some ⟨g',0,none⟩) (tlen+1) cap') (tlen+1) (xs'++[.string tx])):=hown;have HX:Hid (∃ x0:World,∃ H:Nat,Below wr.heap.size wr x0∧x0.grownBy v1 (Value.slice ta' tlen tc').ownBlock∧((Value.slice ta' tlen tc').ownBlock=some g'∨g'=H)∧wr.heap.size≤H):=⟨_,_,(by first | exact (a00 _ _).drew | exact ((Below.refl _ _).drew).trans (a00 _ _) | exact a00 _ _),hgrow,hat,(by simp)⟩;have c11:v1.cell? ⟨b,5,none⟩=some (.slice ta' tlen tc'):=(hgrow.cell_far ⟨b,5,none⟩ (by simp;omega) hnb).trans ((Below.cell (B:=wr.heap.size) (w:=wr) (by first | exact (a00 _ _).drew | exact ((Below.refl _ _).drew).trans (a00 _ _) | exact a00 _ _) (p:=⟨b,5,none⟩) hbX).trans c5);have f11:v1.frozen? ⟨b,5,none⟩=false:=(hgrow.frozen_far ⟨b,5,none⟩ (by simp;omega) hnb).trans ((Below.frozen (B:=wr.heap.size) (w:=wr) (by first | exact (a00 _ _).drew | exact ((Below.refl _ _).drew).trans (a00 _ _) | exact a00 _ _) (p:=⟨b,5,none⟩) hbX).trans fz);clear hown hgrow hat hlt2)
   all_goals
    have HG2:Hid (Grw 79 w (v1.setCell ⟨b,5,none⟩ (.slice (some ⟨g',0,none⟩) (tlen+1) cap')) b 5 9 1 ta (ts.length+(k+1)) (txrow (ts++(ps.take (k+1)).map Pk.text))):=by
     obtain ⟨x0,H,hx0,hgr,hat,hH⟩:=HX.out
     have h0:=a7g (t:=79) (i:=5) (u:=.slice ta' tlen tc') HTyr.out (by decide) HOw.out hx0 hgr hat hH HO1.out c11
     have h1:=Grw.trans (len1:=0) HG.out.rest HG.out.others HNew.out h0 (Nat.zero_le _)
     rw [HNx.out]
     have e:tlen+1=ts.length+(k+1):=by have:=HTl.out;omega
     rw [←e]
     exact h1
    go_wp2_with fail
    go_roundw
    case rel=>exact ⟨k+1,by omega,by go_num,HG2.out⟩
    case measure=>simp [intOf];omega
  ·have hkn':k=ps.length:=by omega
   subst hkn'
   have HLr:Hid _:=ar6 (mc:=mpack len) (a07 HL0.out hG.rest (fun j hj=>HPn.out _ _ _ _ _ _ (by decide) (by decide) HL0.out j hj))
   have HKe:Hid _:=a8l b ad len cap xs ao ps.length cp hl hps HLr.out.1 wr (hG.others 2 _ (by decide) HC2.out) hG.ty (a07 HXs.out hG.rest (fun j hj=>HPn.out _ _ _ _ _ _ (by decide) (by decide) HXs.out j hj)) HLr.out.2
   have HTk:Hid (ps.take ps.length=ps):=by show _=_;rw [List.take_length]
   clear hG
   go_wp2_with fail
   refine (show Calls _ _ _ _ _ from HKe.out).mono ?_
   rintro e w' ⟨rfl,hk⟩
   have HKp:Hid _:=hk
   clear hk
   go_wp2_with fail
   go_ret
   refine ⟨rfl,wr,?_,HKp.out⟩
   have h1:=HG.out
   rw [HTk.out] at h1
   exact h1
def lty:Nat→TypeId
 | 0=>34
 | 1=>62
 | _=>54
def ety:Nat→TypeId
 | 0=>3
 | 1=>89
 | _=>109
def esz:Nat→Nat
 | 0=>1
 | 1=>3
 | _=>2
def emk:Nat→Nat→List Value
 | 0=>mint
 | 1=>mword
 | _=>mpack
structure KeptG (c:Nat) (w w':World) (b:Nat) (ad:Option Addr) (len:Nat) (xs:List Value) (ao:Option Addr) (n cp:Nat):Prop where
 how:∃ ad' cap' a1 c1 a2 c2 a3 c3,w'.cell? ⟨b,c,none⟩=some (.slice ad' (len+4) cap')∧w'.ownsRow 0 (lty c) 1 (.slice ad' (len+4) cap') (len+4) (xs++[.slice ao n cp,.slice a1 (n+1) c1,.slice a2 (n+2) c2,.slice a3 (n+3) c3])
  ∧ Mrk w' ao n cp (esz c) (ety c) (emk c len)∧Mrk w' a1 (n+1) c1 (esz c) (ety c) (emk c len)∧Mrk w' a2 (n+2) c2 (esz c) (ety c) (emk c len)∧Mrk w' a3 (n+3) c3 (esz c) (ety c) (emk c len)
  ∧ (∀ k,onB a1 k∨onB a2 k∨onB a3 k→onB ao k∨w.heap.size≤k)∧(∀ k,onB ad' k→onB ad k∨w.heap.size≤k)
 rest:Alike w w' (fun k=>k=b∨onB ao k∨onB ad k)
 others:∀ j v,j≠c→w.cell? ⟨b,j,none⟩=some v→w'.cell? ⟨b,j,none⟩=some v
 ty:∃ cur,w'.heap[b]?=some (.cells cur 79 (0,0))
theorem KeptI.g {w w':World} {b:Nat} {ad:Option Addr} {len:Nat} {xs:List Value} {ao:Option Addr} {n cp:Nat} (h:KeptI w w' b ad len xs ao n cp):KeptG 0 w w' b ad len xs ao n cp:=⟨h.how,h.rest,h.others,h.ty⟩
theorem KeptW.g {w w':World} {b:Nat} {ad:Option Addr} {len:Nat} {xs:List Value} {ao:Option Addr} {n cp:Nat} (h:KeptW w w' b ad len xs ao n cp):KeptG 1 w w' b ad len xs ao n cp:=⟨h.how,h.rest,h.others,h.ty⟩
theorem KeptP.g {w w':World} {b:Nat} {ad:Option Addr} {len:Nat} {xs:List Value} {ao:Option Addr} {n cp:Nat} (h:KeptP w w' b ad len xs ao n cp):KeptG 2 w w' b ad len xs ao n cp:=⟨h.how,h.rest,h.others,h.ty⟩
def Shv (w:World) (c:Nat) (xs:List Value) (O:Nat→Prop):Prop:=∀ i v,xs[i]?=some v→∃ a n cp,v=.slice a n cp∧n≤100000000∧Mrk w a n cp (esz c) (ety c) (emk c (i / 4 * 4))∧∀ k,onB a k→O k
def FRow (w:World) (wb i:Nat) (e:TypeId) (sz n:Nat) (xs:List Value) (O:Nat→Prop):Prop:=∃ ad cap,w.cell? ⟨wb,i,none⟩=some (.slice ad n cap)∧w.ownsRow 0 e sz (.slice ad n cap) n xs∧∀ k,onB ad k→O k
theorem ah2 {w:World} {a:Option Addr} {n cp sz:Nat} {e:TypeId} {mc:List Value} (h:Mrk w a n cp sz e mc) {k:Nat} (hk:onB a k):∃ cur,w.heap[k]?=some (.cells cur e (0,0)):=by
 rcases h with ⟨rfl,_⟩ | ⟨g,rfl,⟨cur,hh,_⟩,_⟩
 ·obtain ⟨_,h⟩:=hk
  cases h
 ·obtain ⟨_,h⟩:=hk
  cases h
  exact ⟨cur,hh⟩
theorem Shv.move {w w':World} {c:Nat} {xs:List Value} {O O' E:Nat→Prop} (h:Shv w c xs O) (ha:Alike w w' E) (hE:∀ k cur,w.heap[k]?=some (.cells cur (ety c) (0,0))→O k→¬ E k) (hO:∀ k,O k→O' k):Shv w' c xs O':=fun i v hv=>by
 obtain ⟨a,n,cp,rfl,hn,hM,ho⟩:=h i v hv
 refine ⟨a,n,cp,rfl,hn,hM.low ha (fun k hk he=>?_),fun k hk=>hO k (ho k hk)⟩
 obtain ⟨cur,hh⟩:=ah2 hM hk
 exact hE k cur hh (ho k hk) he
theorem FRow.move {w w':World} {wb i:Nat} {e:TypeId} {sz n:Nat} {xs:List Value} {O O' E:Nat→Prop} (h:FRow w wb i e sz n xs O) (hc:∀ v,w.cell? ⟨wb,i,none⟩=some v→w'.cell? ⟨wb,i,none⟩=some v) (ha:Alike w w' E) (hE:∀ k cur,w.heap[k]?=some (.cells cur e (0,0))→O k→¬ E k) (hO:∀ k,O k→O' k):FRow w' wb i e sz n xs O':=by
 obtain ⟨ad,cap,h1,h2,h3⟩:=h
 refine ⟨ad,cap,hc _ h1,a07 h2 ha (fun k hk he=>?_),fun k hk=>hO k (h3 k hk)⟩
 obtain ⟨cur,hh⟩:=a02 h2 hk
 exact hE k cur hh (h3 k hk) he
theorem Shv.shlf {w:World} {c:Nat} {xs:List Value} {O:Nat→Prop} {ad:Option Addr} {len cap:Nat} (h:Shv w c xs O) (ho:w.ownsRow 0 (lty c) 1 (.slice ad len cap) len xs):Shlf w ad len (esz c) (emk c):=fun i hi=>by
 have hx:=ho.1
 rcases ho.2 with ⟨_,h0⟩ | ⟨r,cap',cur,he,_⟩
 ·omega
 ·cases he
  have hil:i<xs.length:=by omega
  obtain ⟨a,n,cp,e,hn,hM,_⟩:=h i _ (List.getElem?_eq_getElem hil)
  refine ⟨r,a,n,cp,rfl,?_,hn,fun k hk=>?_⟩
  ·rw [World.ownsRow.cellAt ho i (by omega),List.getElem?_eq_getElem hil,e]
  ·rcases hM with ⟨_,h0,_⟩ | ⟨g,e',_,_,hcell⟩
   ·omega
   ·exact ⟨g,e',fun j v hj=>hcell k hk j v hj⟩
structure BkAt (w:World) (wb t u:Nat) (kr nr:List Value) (nk nn:Nat) (O:Nat→Prop):Prop where
 ty:∃ cur,w.heap[wb]?=some (.cells cur 79 (0,0))
 sh:∀ c,c<3→∃ ln xs,ln≤4 * t∧ln % 4=0∧FRow w wb c (lty c) 1 ln xs O∧Shv w c xs O
 kn:FRow w wb 3 123 2 nk kr O
 nt:FRow w wb 4 128 2 nn nr O
 tx:∃ ts:List ByteArray,FRow w wb 5 9 1 ts.length (txrow ts) O∧ts.length≤1000 * u∧∀ x∈ts,x.size≤100
 self:O wb
 lt:∀ k,O k→k<w.heap.size
section
variable {w w':World} {wb t u nk nn:Nat} {kr nr:List Value} {O E:Nat→Prop}
theorem BkAt.alike (h:BkAt w wb t u kr nr nk nn O) (ha:Alike w w' E) (hE:∀ k,O k→¬ E k):BkAt w' wb t u kr nr nk nn O:=by
 have hc:∀ i v,w.cell? ⟨wb,i,none⟩=some v→w'.cell? ⟨wb,i,none⟩=some v:=fun i v hv=>ha.cell hv (hE wb h.self)
 refine ⟨?_,fun c hc3=>?_,h.kn.move (hc 3) ha (fun k _ _ hk=>hE k hk) (fun _ h=>h),h.nt.move (hc 4) ha (fun k _ _ hk=>hE k hk) (fun _ h=>h),?_,h.self,fun k hk=>Nat.lt_of_lt_of_le (h.lt k hk) ha.size⟩
 ·obtain ⟨cur,e⟩:=h.ty
  exact ⟨cur,(ha.block wb (lt_of_some e) (hE wb h.self)).trans e⟩
 ·obtain ⟨ln,xs,h1,h2,h3,h4⟩:=h.sh c hc3
  exact ⟨ln,xs,h1,h2,h3.move (hc c) ha (fun k _ _ hk=>hE k hk) (fun _ h=>h),h4.move ha (fun k _ _ hk=>hE k hk) (fun _ h=>h)⟩
 ·obtain ⟨ts,h1,h2⟩:=h.tx
  exact ⟨ts,h1.move (hc 5) ha (fun k _ _ hk=>hE k hk) (fun _ h=>h),h2⟩
theorem BkAt.low (h:BkAt w wb t u kr nr nk nn O) (hb:Below w.heap.size w w'):BkAt w' wb t u kr nr nk nn O:=h.alike (Alike.of_below hb (fun _=>False)) (fun _ _ h=>h)
theorem BkAt.more {t' u':Nat} (h:BkAt w wb t u kr nr nk nn O) (ht:t≤t') (hu:u≤u'):BkAt w wb t' u' kr nr nk nn O:=by
 refine ⟨h.ty,fun c hc=>?_,h.kn,h.nt,?_,h.self,h.lt⟩
 ·obtain ⟨ln,xs,h1,h2⟩:=h.sh c hc
  exact ⟨ln,xs,by omega,h2⟩
 ·obtain ⟨ts,h1,h2,h3⟩:=h.tx
  exact ⟨ts,h1,by omega,h3⟩
theorem b80:∀ c,c<3→∀ c',c'<3→c≠c'→lty c≠lty c':=by decide
theorem b3r:∀ c,c<3→∀ c',c'<3→lty c≠ety c':=by decide
theorem a1p:∀ c,c<3→lty c≠79∧lty c≠123∧lty c≠128∧lty c≠9:=by decide
theorem a3h:∀ c,c<3→ety c≠79∧ety c≠123∧ety c≠128∧ety c≠9:=by decide
theorem BkAt.kept (h:BkAt w wb t u kr nr nk nn O) {c:Nat} (hc3:c<3) {ad:Option Addr} {ln cap:Nat} {xs:List Value} {ao:Option Addr} {n cp:Nat} (hln:ln≤4 * t) (h4:ln % 4=0) (hn:n≤1000000) (hown:w.ownsRow 0 (lty c) 1 (.slice ad ln cap) ln xs) (hS:Shv w c xs O) (had:∀ k,onB ad k→O k) (hao:∀ k,onB ao k→¬ O k) (hk:KeptG c w w' wb ad ln xs ao n cp) :
  BkAt w' wb (t+1) u kr nr nk nn (fun k=>k<w'.heap.size∧(O k∨onB ao k∨w.heap.size≤k)):=by
 obtain ⟨⟨ad',cap',a1,c1,a2,c2,a3,c3,hcell,hown',m0,m1,m2,m3,hnew,hnad⟩,hrest,hoth,hty⟩:=hk
 obtain ⟨curw,htw⟩:=h.ty
 have hsz:=hrest.size
 have hOO:∀ k,O k→k<w'.heap.size∧(O k∨onB ao k∨w.heap.size≤k):=fun k hk=>⟨Nat.lt_of_lt_of_le (h.lt k hk) hsz,Or.inl hk⟩
 have hapart:∀ (e:TypeId),e≠lty c→e≠79→∀ k cur,w.heap[k]?=some (.cells cur e (0,0))→O k→¬ (k=wb∨onB ao k∨onB ad k):=fun e h1 h2 k cur hh ho hor=>by
  rcases hor with rfl | hk | hk
  ·exact ty_ne hh htw h2 rfl
  ·exact hao k hk ho
  ·obtain ⟨_,hh'⟩:=a02 hown hk
   exact ty_ne hh hh' h1 rfl
 have hon:∀ {a:Option Addr} {m cq:Nat} {mc:List Value},Mrk w' a m cq (esz c) (ety c) mc→∀ k,onB a k→k<w'.heap.size:=fun hM k hk=>by
  obtain ⟨_,e⟩:=ah2 hM hk
  exact lt_of_some e
 refine ⟨hty,fun c' hc'=>?_,?_,?_,?_,hOO wb h.self,fun k hk=>hk.1⟩
 ·by_cases hcc:c'=c
  ·subst hcc
   refine ⟨ln+4,_,by omega,by omega,⟨ad',cap',hcell,hown',fun k hk=>?_⟩,fun i v hv=>?_⟩
   ·obtain ⟨_,e⟩:=a02 hown' hk
    refine ⟨lt_of_some e,?_⟩
    rcases hnad k hk with h1 | h1
    ·exact Or.inl (had k h1)
    ·exact Or.inr (Or.inr h1)
   ·have hxl:xs.length=ln:=by have:=hown.1;omega
    rcases Nat.lt_or_ge i xs.length with hi | hi
    ·rw [List.getElem?_append_left hi] at hv
     exact (hS.move hrest (fun k cur hh ho=>hapart _ (fun e=>b3r c' hc3 c' hc3 e.symm) (a3h c' hc3).1 k cur hh ho) hOO) i v hv
    ·rw [List.getElem?_append_right hi,hxl] at hv
     have hil:i-ln<4:=(List.getElem?_eq_some_iff.1 hv).1
     have hi4:i / 4 * 4=ln:=by omega
     rw [hi4]
     have h0:∀ k,onB ao k→k<w'.heap.size∧(O k∨onB ao k∨w.heap.size≤k):=fun k hk=>⟨hon m0 k hk,Or.inr (Or.inl hk)⟩
     have hj:i-ln=0∨i-ln=1∨i-ln=2∨i-ln=3:=by omega
     rcases hj with e | e | e | e<;>rw [e] at hv<;>simp at hv<;>subst hv
     ·exact ⟨_,_,_,rfl,by omega,m0,h0⟩
     ·exact ⟨_,_,_,rfl,by omega,m1,fun k hk=>⟨hon m1 k hk,Or.inr (hnew k (Or.inl hk))⟩⟩
     ·exact ⟨_,_,_,rfl,by omega,m2,fun k hk=>⟨hon m2 k hk,Or.inr (hnew k (Or.inr (Or.inl hk)))⟩⟩
     ·exact ⟨_,_,_,rfl,by omega,m3,fun k hk=>⟨hon m3 k hk,Or.inr (hnew k (Or.inr (Or.inr hk)))⟩⟩
  ·obtain ⟨ln',xs',h1,h2,h3,h5⟩:=h.sh c' hc'
   exact ⟨ln',xs',by omega,h2,h3.move (fun v=>hoth c' v hcc) hrest (hapart _ (b80 c' hc' c hc3 hcc) (a1p c' hc').1) hOO,h5.move hrest (hapart _ (fun e=>b3r c hc3 c' hc' e.symm) (a3h c' hc').1) hOO⟩
 ·exact h.kn.move (fun v=>hoth 3 v (by omega)) hrest (hapart _ (fun e=>(a1p c hc3).2.1 e.symm) (by decide)) hOO
 ·exact h.nt.move (fun v=>hoth 4 v (by omega)) hrest (hapart _ (fun e=>(a1p c hc3).2.2.1 e.symm) (by decide)) hOO
 ·obtain ⟨ts,h1,h2⟩:=h.tx
  exact ⟨ts,h1.move (fun v=>hoth 5 v (by omega)) hrest (hapart _ (fun e=>(a1p c hc3).2.2.2 e.symm) (by decide)) hOO,h2⟩
theorem BkAt.texts (h:BkAt w wb t u kr nr nk nn O) {ta:Option Addr} {tc:Nat} {ts us:List ByteArray} (hown:w.ownsRow 0 9 1 (.slice ta ts.length tc) ts.length (txrow ts)) (hta:∀ k,onB ta k→O k) (hts:ts.length≤1000 * u) (hsz:∀ x∈ts,x.size≤100) (hus:us.length≤1000) (hsu:∀ x∈us,x.size≤100) (hg:Grw 79 w w' wb 5 9 1 ta (ts.length+us.length) (txrow (ts++us))) :
  BkAt w' wb t (u+1) kr nr nk nn (fun k=>k<w'.heap.size∧(O k∨w.heap.size≤k)):=by
 obtain ⟨⟨ad',cap',hcell,hown',hnew⟩,hrest,hoth,hty⟩:=hg
 obtain ⟨curw,htw⟩:=h.ty
 have hsize:=hrest.size
 have hOO:∀ k,O k→k<w'.heap.size∧(O k∨w.heap.size≤k):=fun k hk=>⟨Nat.lt_of_lt_of_le (h.lt k hk) hsize,Or.inl hk⟩
 have hapart:∀ (e:TypeId),e≠9→e≠79→∀ k cur,w.heap[k]?=some (.cells cur e (0,0))→O k→¬ (k=wb∨onB ta k):=fun e h1 h2 k cur hh ho hor=>by
  rcases hor with rfl | hk
  ·exact ty_ne hh htw h2 rfl
  ·obtain ⟨_,hh'⟩:=a02 hown hk
   exact ty_ne hh hh' h1 rfl
 refine ⟨hty,fun c hc=>?_,h.kn.move (fun v=>hoth 3 v (by omega)) hrest (hapart _ (by decide) (by decide)) hOO,h.nt.move (fun v=>hoth 4 v (by omega)) hrest (hapart _ (by decide) (by decide)) hOO,⟨ts++us,⟨ad',cap',by rw [List.length_append];exact hcell,by rw [List.length_append];exact hown',fun k hk=>?_⟩,by rw [List.length_append];omega,fun x hx=>?_⟩,hOO wb h.self,fun k hk=>hk.1⟩
 ·obtain ⟨ln,xs,h1,h2,h3,h4⟩:=h.sh c hc
  exact ⟨ln,xs,h1,h2,h3.move (fun v=>hoth c v (by omega)) hrest (hapart _ (a1p c hc).2.2.2 (a1p c hc).1) hOO,h4.move hrest (hapart _ (a3h c hc).2.2.2 (a3h c hc).1) hOO⟩
 ·obtain ⟨_,e⟩:=a02 hown' hk
  refine ⟨lt_of_some e,?_⟩
  rcases hnew k hk with h1 | h1
  ·exact Or.inl (hta k h1)
  ·exact Or.inr h1
 ·rcases List.mem_append.1 hx with h1 | h1
  ·exact hsz x h1
  ·exact hsu x h1
theorem BkAt.knots {nk':Nat} {kr':List Value} (h:BkAt w wb t u kr nr nk nn O) {ka:Option Addr} {kc:Nat} (hown:w.ownsRow 0 123 2 (.slice ka nk kc) nk kr) (hka:∀ k,onB ka k→O k) (hg:Grw 79 w w' wb 3 123 2 ka nk' kr') :
  BkAt w' wb t u kr' nr nk' nn (fun k=>k<w'.heap.size∧(O k∨((∃ cur,w'.heap[k]?=some (.cells cur 123 (0,0)))∧w.heap.size≤k))):=by
 obtain ⟨⟨ad',cap',hcell,hown',hnew⟩,hrest,hoth,hty⟩:=hg
 obtain ⟨curw,htw⟩:=h.ty
 have hsize:=hrest.size
 have hOO:∀ k,O k→k<w'.heap.size∧(O k∨((∃ cur,w'.heap[k]?=some (.cells cur 123 (0,0)))∧w.heap.size≤k)):=fun k hk=>⟨Nat.lt_of_lt_of_le (h.lt k hk) hsize,Or.inl hk⟩
 have hapart:∀ (e:TypeId),e≠123→e≠79→∀ k cur,w.heap[k]?=some (.cells cur e (0,0))→O k→¬ (k=wb∨onB ka k):=fun e h1 h2 k cur hh ho hor=>by
  rcases hor with rfl | hk
  ·exact ty_ne hh htw h2 rfl
  ·obtain ⟨_,hh'⟩:=a02 hown hk
   exact ty_ne hh hh' h1 rfl
 refine ⟨hty,fun c hc=>?_,⟨ad',cap',hcell,hown',fun k hk=>?_⟩,h.nt.move (fun v=>hoth 4 v (by omega)) hrest (hapart _ (by decide) (by decide)) hOO,?_,hOO wb h.self,fun k hk=>hk.1⟩
 ·obtain ⟨ln,xs,h1,h2,h3,h4⟩:=h.sh c hc
  exact ⟨ln,xs,h1,h2,h3.move (fun v=>hoth c v (by omega)) hrest (hapart _ (a1p c hc).2.1 (a1p c hc).1) hOO,h4.move hrest (hapart _ (a3h c hc).2.1 (a3h c hc).1) hOO⟩
 ·obtain ⟨cur,e⟩:=a02 hown' hk
  refine ⟨lt_of_some e,?_⟩
  rcases hnew k hk with h1 | h1
  ·exact Or.inl (hka k h1)
  ·exact Or.inr ⟨⟨cur,e⟩,h1⟩
 ·obtain ⟨ts,h1,h2⟩:=h.tx
  exact ⟨ts,h1.move (fun v=>hoth 5 v (by omega)) hrest (hapart _ (by decide) (by decide)) hOO,h2⟩
theorem BkAt.looks (h:BkAt w wb t u kr nr nk nn O) (ht:t≤250000) :
  Calls Tryz.prog 38 #[.pointer (some ⟨wb,0,none⟩)] w fun e w'=>e=.returned (.bool true)∧Below w.heap.size w w':=by
 obtain ⟨l0,x0,a1,_,⟨ad0,cap0,c0,o0,_⟩,s0⟩:=h.sh 0 (by decide)
 obtain ⟨l1,x1,a2,_,⟨ad1,cap1,c1,o1,_⟩,s1⟩:=h.sh 1 (by decide)
 obtain ⟨l2,x2,a3,_,⟨ad2,cap2,c2,o2,_⟩,s2⟩:=h.sh 2 (by decide)
 exact b1y wb ad0 ad1 ad2 l0 l1 l2 cap0 cap1 cap2 w c0 c1 c2 (by omega) (by omega) (by omega) (s0.shlf o0) (s1.shlf o1) (s2.shlf o2)
end
structure RNLay where
 na:Option Addr
 nc:Nat
 ba:Option Addr
 bc:Nat
 fa:Option Addr
 fc:Nat
 rb:Nat→Nat
 Fp:Nat→Nat→Prop
def nprow (rb:Nat→Nat) (n:Nat):List Value:=(List.range n).map fun p=>.pointer (some ⟨rb p,0,none⟩)
def refs (x:MNet) (n:Nat):List Int:=(List.range n).map x.ref
def RNLay.foot (G:RNLay) (nb n k:Nat):Prop:=k=nb∨onB G.na k∨onB G.ba k∨onB G.fa k∨∃ p,p<n∧G.Fp p k
structure RNt (w:World) (nb:Nat) (g:Gr) (x:MNet) (m:Nat) (G:RNLay):Prop where
 ty:∃ cur,w.heap[nb]?=some (.cells cur 238 (0,0))
 c0:w.cell? ⟨nb,0,none⟩=some (.int .i64 (g.n:Int))
 c1:w.cell? ⟨nb,1,none⟩=some (.int .i64 g.W)
 c2:w.cell? ⟨nb,2,none⟩=some (.int .i64 g.B)
 c3:w.cell? ⟨nb,3,none⟩=some (.int .i64 g.L)
 c4:w.cell? ⟨nb,4,none⟩=some (.slice G.na g.n G.nc)
 no:w.ownsRow 0 121 1 (.slice G.na g.n G.nc) g.n (nprow G.rb g.n)
 c5:w.cell? ⟨nb,5,none⟩=some (.slice G.ba x.bag.length G.bc)
 bo:w.ownsRow 0 109 2 (.slice G.ba x.bag.length G.bc) x.bag.length (prow x.bag)
 c6:w.cell? ⟨nb,6,none⟩=some (.slice G.fa g.n G.fc)
 fo:w.ownsRow 0 3 1 (.slice G.fa g.n G.fc) g.n (irow (refs x g.n))
 nd:∀ p,p<g.n→RefAt w (G.rb p) g p (x.nd p) m (G.Fp p)
 tp:∀ p,p<g.n→∀ k,G.Fp p k→∃ cur t,w.heap[k]?=some (.cells cur t (0,0))∧t≠109
 dis:∀ p q,p<g.n→q<g.n→p≠q→∀ k,G.Fp p k→¬ G.Fp q k
 off:∀ p,p<g.n→∀ k,G.Fp p k→k≠nb∧¬ onB G.na k∧¬ onB G.fa k
section
variable {w y z:World} {nb:Nat} {g:Gr} {x:MNet} {m:Nat} {G:RNLay} {E F:Nat→Prop}
theorem RNt.ofB (h:RNt w nb g x m G) {p:Nat} (hp:p<g.n) {k:Nat} (hk:G.Fp p k):¬ onB G.ba k:=fun hb=>by
 obtain ⟨_,e⟩:=a02 h.bo hb
 obtain ⟨_,t,e',ht⟩:=h.tp p hp k hk
 rw [e] at e'
 cases e'
 exact ht rfl
theorem RNt.lt (h:RNt w nb g x m G) {k:Nat} (hk:G.foot nb g.n k):k<w.heap.size:=by
 rcases hk with rfl | hk | hk | hk | ⟨p,hp,hk⟩
 ·obtain ⟨_,e⟩:=h.ty
  exact lt_of_some e
 ·obtain ⟨_,e⟩:=a02 h.no hk
  exact lt_of_some e
 ·obtain ⟨_,e⟩:=a02 h.bo hk
  exact lt_of_some e
 ·obtain ⟨_,e⟩:=a02 h.fo hk
  exact lt_of_some e
 ·obtain ⟨_,_,e,_⟩:=h.tp p hp k hk
  exact lt_of_some e
theorem RNt.alike (h:RNt w nb g x m G) (ha:Alike w y E) (hE:∀ k,G.foot nb g.n k→¬ E k):RNt y nb g x m G:=by
 have hn:¬ E nb:=hE nb (Or.inl rfl)
 refine ⟨?_,ha.cell h.c0 hn,ha.cell h.c1 hn,ha.cell h.c2 hn,ha.cell h.c3 hn,ha.cell h.c4 hn,a07 h.no ha (fun k hk=>hE k (Or.inr (Or.inl hk))),ha.cell h.c5 hn,a07 h.bo ha (fun k hk=>hE k (Or.inr (Or.inr (Or.inl hk)))),ha.cell h.c6 hn,a07 h.fo ha (fun k hk=>hE k (Or.inr (Or.inr (Or.inr (Or.inl hk))))),fun p hp=>(h.nd p hp).alike ha (fun k hk=>hE k (Or.inr (Or.inr (Or.inr (Or.inr ⟨p,hp,hk⟩))))),fun p hp k hk=>?_,h.dis,h.off⟩
 ·obtain ⟨cur,e⟩:=h.ty
  exact ⟨cur,(ha.block nb (lt_of_some e) hn).trans e⟩
 ·obtain ⟨cur,t,e,ht⟩:=h.tp p hp k hk
  exact ⟨cur,t,(ha.block k (lt_of_some e) (hE k (Or.inr (Or.inr (Or.inr (Or.inr ⟨p,hp,hk⟩)))))).trans e,ht⟩
theorem RNt.low (h:RNt w nb g x m G) (hb:Below w.heap.size w y):RNt y nb g x m G:=h.alike (Alike.of_below hb (fun _=>False)) (fun _ _ h=>h)
theorem RNt.more {m':Nat} (h:RNt w nb g x m G) (hm:m≤m'):RNt w nb g x m' G:=⟨h.ty,h.c0,h.c1,h.c2,h.c3,h.c4,h.no,h.c5,h.bo,h.c6,h.fo,fun p hp=>(h.nd p hp).more hm,h.tp,h.dis,h.off⟩
theorem RNt.bag (h:RNt w nb g x m G) {bg:List Pk} (hg:Grw 238 w y nb 5 109 2 G.ba bg.length (prow bg)):∃ ba' bc',RNt y nb g { x with bag:=bg } m { G with ba:=ba',bc:=bc' }∧∀ k,onB ba' k→onB G.ba k∨w.heap.size≤k:=by
 obtain ⟨⟨ba',bc',hc,hown,hnew⟩,hrest,hoth,hty⟩:=hg
 obtain ⟨curn,htn⟩:=h.ty
 have hapart:∀ (e:TypeId),e≠109→e≠238→∀ {sz n cp:Nat} {ad:Option Addr} {xs:List Value},w.ownsRow 0 e sz (.slice ad n cp) n xs→∀ k,onB ad k→¬ (k=nb∨onB G.ba k):=fun e h1 h2 sz n cp ad xs ho k hk hor=>by
  obtain ⟨_,hh⟩:=a02 ho hk
  rcases hor with rfl | hb
  ·exact ty_ne hh htn h2 rfl
  ·obtain ⟨_,hh'⟩:=a02 h.bo hb
   exact ty_ne hh hh' h1 rfl
 refine ⟨ba',bc',⟨hty,hoth 0 _ (by decide) h.c0,hoth 1 _ (by decide) h.c1,hoth 2 _ (by decide) h.c2,hoth 3 _ (by decide) h.c3,hoth 4 _ (by decide) h.c4,a07 h.no hrest (hapart _ (by decide) (by decide) h.no),hc,hown,hoth 6 _ (by decide) h.c6,a07 h.fo hrest (hapart _ (by decide) (by decide) h.fo),fun p hp=>(h.nd p hp).alike hrest (fun k hk hc=>?_),fun p hp k hk=>?_,h.dis,h.off⟩,hnew⟩
 ·rcases hc with rfl | hb
  ·exact (h.off p hp _ hk).1 rfl
  ·exact h.ofB hp hk hb
 ·obtain ⟨cur,t,e,ht⟩:=h.tp p hp k hk
  refine ⟨cur,t,(hrest.block k (lt_of_some e) (fun hc=>?_)).trans e,ht⟩
  rcases hc with rfl | hb
  ·exact (h.off p hp _ hk).1 rfl
  ·exact h.ofB hp hk hb
theorem RNt.node (h:RNt w nb g x m G) {p:Nat} (hp:p<g.n) {s:NS} {m':Nat} (hm:m≤m') {v:Value} {ps:List Pk} (hd:RDid w y (G.rb p) g p (G.Fp p) s m' v ps):∃ F',RNt y nb g (x.put p s) m' { G with Fp:=fun q=>if q=p then F' else G.Fp q }∧∀ k,F' k→G.Fp p k∨w.heap.size≤k:=by
 obtain ⟨⟨F1,r1,r2⟩,hrest,_⟩:=hd
 obtain ⟨F',t1,t2,_,t4⟩:=r1.tight
 have hF':∀ k,F' k→G.Fp p k∨w.heap.size≤k:=fun k hk=>r2 k (t1 k hk)
 have hn:¬ G.Fp p nb:=fun hc=>(h.off p hp nb hc).1 rfl
 have hsz:=hrest.size
 have hold:∀ k,k<w.heap.size→F' k→G.Fp p k:=fun k hk hf=>(hF' k hf).resolve_right (by omega)
 refine ⟨F',⟨?_,hrest.cell h.c0 hn,hrest.cell h.c1 hn,hrest.cell h.c2 hn,hrest.cell h.c3 hn,hrest.cell h.c4 hn,a07 h.no hrest (fun k hk hc=>(h.off p hp k hc).2.1 hk),hrest.cell h.c5 hn,a07 h.bo hrest (fun k hk hc=>h.ofB hp hc hk),hrest.cell h.c6 hn,a07 h.fo hrest (fun k hk hc=>(h.off p hp k hc).2.2 hk),fun q hq=>?_,fun q hq k hk=>?_,fun q q' hq hq' hne k hk hc=>?_,fun q hq k hk=>?_⟩,hF'⟩
 ·obtain ⟨cur,e⟩:=h.ty
  exact ⟨cur,(hrest.block nb (lt_of_some e) hn).trans e⟩
 ·by_cases e:q=p
  ·subst e
   simpa [MNet.put] using t2
  ·simp only [MNet.put,if_neg e]
   exact ((h.nd q hq).alike hrest (fun k hk hc=>h.dis q p hq hp e k hk hc)).more hm
 ·simp only at hk
  split at hk
  ·obtain ⟨cur,t,e,ht,_⟩:=t4 k hk
   exact ⟨cur,t,e,ht⟩
  ·rename_i e0
   obtain ⟨cur,t,e,ht⟩:=h.tp q hq k hk
   exact ⟨cur,t,(hrest.block k (lt_of_some e) (fun hc=>h.dis q p hq hp e0 k hk hc)).trans e,ht⟩
 ·simp only at hk hc
  have hlt:∀ q,q<g.n→G.Fp q k→k<w.heap.size:=fun q hq hk=>by
   obtain ⟨_,_,e,_⟩:=h.tp q hq k hk
   exact lt_of_some e
  by_cases e1:q=p
  ·have e2:q'≠p:=fun e=>hne (e1.trans e.symm)
   rw [if_pos e1] at hk
   rw [if_neg e2] at hc
   exact h.dis p q' hp hq' (fun e=>e2 e.symm) k (hold k (hlt q' hq' hc) hk) hc
  ·rw [if_neg e1] at hk
   by_cases e2:q'=p
   ·rw [if_pos e2] at hc
    exact h.dis q p hq hp e1 k hk (hold k (hlt q hq hk) hc)
   ·rw [if_neg e2] at hc
    exact h.dis q q' hq hq' hne k hk hc
 ·simp only at hk
  split at hk
  ·rcases hF' k hk with h1 | h1
   ·exact h.off p hp k h1
   ·have hl:∀ {j},G.foot nb g.n j→j<w.heap.size:=fun hj=>h.lt hj
    refine ⟨fun e=>?_,fun e=>?_,fun e=>?_⟩
    ·have:=hl (j:=k) (Or.inl e)
     omega
    ·have:=hl (j:=k) (Or.inr (Or.inl e))
     omega
    ·have:=hl (j:=k) (Or.inr (Or.inr (Or.inr (Or.inl e))))
     omega
  ·exact h.off q hq k hk
end
structure RNs (w y:World) (nb:Nat) (g:Gr) (F:Nat→Prop) (x:MNet) (m:Nat) (G:RNLay):Prop where
 n:RNt y nb g x m G
 f:∀ k,G.foot nb g.n k→F k∨w.heap.size≤k
 r:Alike w y F
section
variable {w y z:World} {nb:Nat} {g:Gr} {x:MNet} {m:Nat} {G:RNLay} {F:Nat→Prop}
theorem RNs.low (h:RNs w y nb g F x m G) (hb:Below y.heap.size y z):RNs w z nb g F x m G:=⟨h.n.low hb,h.f,h.r.trans (Alike.of_below hb (fun _=>False)) (fun _ _ h=>h.elim)⟩
theorem RNs.more {m':Nat} (h:RNs w y nb g F x m G) (hm:m≤m'):RNs w y nb g F x m' G:=⟨h.n.more hm,h.f,h.r⟩
theorem RNs.bag (h:RNs w y nb g F x m G) {bg:List Pk} (hg:Grw 238 y z nb 5 109 2 G.ba bg.length (prow bg)):∃ ba' bc',RNs w z nb g F { x with bag:=bg } m { G with ba:=ba',bc:=bc' }:=by
 obtain ⟨ba',bc',h1,h2⟩:=h.n.bag hg
 have hs:=h.r.size
 refine ⟨ba',bc',h1,fun k hk=>?_,h.r.trans hg.rest (fun k hk hc=>?_)⟩
 ·rcases hk with e | hk | hk | hk | hk
  ·exact h.f k (Or.inl e)
  ·exact h.f k (Or.inr (Or.inl hk))
  ·rcases h2 k hk with h3 | h3
   ·exact h.f k (Or.inr (Or.inr (Or.inl h3)))
   ·exact Or.inr (by omega)
  ·exact h.f k (Or.inr (Or.inr (Or.inr (Or.inl hk))))
  ·exact h.f k (Or.inr (Or.inr (Or.inr (Or.inr hk))))
 ·have h3:F k∨w.heap.size≤k:=by
   rcases hc with e | hk
   ·exact h.f k (Or.inl e)
   ·exact h.f k (Or.inr (Or.inr (Or.inl hk)))
  exact h3.resolve_right (by omega)
theorem RNs.node (h:RNs w y nb g F x m G) {p:Nat} (hp:p<g.n) {s:NS} {m':Nat} (hm:m≤m') {v:Value} {ps:List Pk} (hd:RDid y z (G.rb p) g p (G.Fp p) s m' v ps):∃ Fp',RNs w z nb g F (x.put p s) m' { G with Fp:=Fp' }:=by
 obtain ⟨F',h1,h2⟩:=h.n.node hp hm hd
 have hs:=h.r.size
 refine ⟨_,h1,fun k hk=>?_,h.r.trans hd.rest (fun k hk hc=>(h.f k (Or.inr (Or.inr (Or.inr (Or.inr ⟨p,hp,hc⟩))))).resolve_right (by omega))⟩
 rcases hk with e | hk | hk | hk | ⟨q,hq,hk⟩
 ·exact h.f k (Or.inl e)
 ·exact h.f k (Or.inr (Or.inl hk))
 ·exact h.f k (Or.inr (Or.inr (Or.inl hk)))
 ·exact h.f k (Or.inr (Or.inr (Or.inr (Or.inl hk))))
 ·simp only at hk
  split at hk
  ·rcases h2 k hk with h3 | h3
   ·exact h.f k (Or.inr (Or.inr (Or.inr (Or.inr ⟨p,hp,h3⟩))))
   ·exact Or.inr (by omega)
  ·exact h.f k (Or.inr (Or.inr (Or.inr (Or.inr ⟨q,hq,hk⟩))))
theorem a7w (x:MNet) {n p:Nat} (hp:p<n):(irow (refs x n))[p]?=some (.int .i64 (x.ref p)):=by simp [irow,refs,hp]
theorem b3k (rb:Nat→Nat) {n p:Nat} (hp:p<n):(nprow rb n)[p]?=some (.pointer (some ⟨rb p,0,none⟩)):=by simp [nprow,hp]
theorem ao8 (x:MNet) {n p:Nat} (hp:p<n):irow (refs (x.refuse p) n)=(irow (refs x n)).set p (.int .i64 (x.ref p+1)):=by
 apply List.ext_getElem?
 intro i
 by_cases hi:i<n
 ·by_cases e:i=p
  ·subst e
   rw [a7w _ hi,List.getElem?_set_self (by simp [irow,refs];exact hi)]
   simp [MNet.refuse]
  ·rw [a7w _ hi,List.getElem?_set_ne (fun h=>e h.symm),a7w _ hi]
   simp [MNet.refuse,e]
 ·rw [List.getElem?_eq_none (by simp [irow,refs];omega),List.getElem?_eq_none (by simp [irow,refs];omega)]
theorem RNs.refuse (h:RNs w y nb g F x m G) {p gf:Nat} (hp:p<g.n) (hfa:G.fa=some ⟨gf,0,none⟩):RNs w (y.setCell ⟨gf,p,none⟩ (.int .i64 (x.ref p+1))) nb g F (x.refuse p) m G:=by
 have hN:=h.n
 have ha:=Alike.setCell y ⟨gf,p,none⟩ (.int .i64 (x.ref p+1))
 have hgf:onB G.fa gf:=⟨0,hfa⟩
 obtain ⟨curf,htf⟩:=a02 hN.fo hgf
 obtain ⟨curn,htn⟩:=hN.ty
 have hn:nb≠gf:=ty_ne htn htf (by decide)
 have hrow:∀ (e:TypeId),e≠3→∀ {sz n cp:Nat} {ad:Option Addr} {xs:List Value},y.ownsRow 0 e sz (.slice ad n cp) n xs→∀ k,onB ad k→¬ (k=gf):=fun e h1 sz n cp ad xs ho k hk he=>by
  obtain ⟨_,hh⟩:=a02 ho hk
  exact ty_ne hh htf h1 he
 have hfo:=hN.fo
 rw [hfa] at hfo
 have hs:=h.r.size
 refine ⟨⟨⟨curn,(ha.block nb (lt_of_some htn) hn).trans htn⟩,ha.cell hN.c0 hn,ha.cell hN.c1 hn,ha.cell hN.c2 hn,ha.cell hN.c3 hn,ha.cell hN.c4 hn,a07 hN.no ha (hrow _ (by decide) hN.no),ha.cell hN.c5 hn,a07 hN.bo ha (hrow _ (by decide) hN.bo),ha.cell hN.c6 hn,?_,fun q hq=>(hN.nd q hq).alike ha (fun k hk e=>(hN.off q hq k hk).2.2 (by rw [e];exact hgf)),fun q hq k hk=>?_,hN.dis,hN.off⟩,h.f,h.r.trans ha (fun k hk e=>(h.f k (Or.inr (Or.inr (Or.inr (Or.inl (by rw [e];exact hgf)))))).resolve_right (by omega))⟩
 ·rw [hfa,ao8 x hp]
  refine ⟨by simp [irow,refs],?_⟩
  rcases hfo.2 with ⟨he,_⟩ | ⟨g',cap',cur,he,hg,hh,hnc,hcm,hcs,htk⟩
  ·cases he
  ·cases he
   refine Or.inr ⟨gf,_,_,rfl,hg,heap_setCell_same y gf p cur _ _ hh,hnc,hcm,by simpa using hcs,?_⟩
   rw [Array.toList_setIfInBounds,List.take_set,htk]
 ·obtain ⟨cur,t,e,ht⟩:=hN.tp q hq k hk
  exact ⟨cur,t,(ha.block k (lt_of_some e) (fun e=>(hN.off q hq k hk).2.2 (by rw [e];exact hgf))).trans e,ht⟩
end
def a0v (w:World) (nb:Nat) (g:Gr) (x:MNet) (m:Nat) (F:Nat→Prop):Prop:=∃ G,RNt w nb g x m G∧∀ k,G.foot nb g.n k→F k
structure RNDid (w w':World) (nb:Nat) (g:Gr) (F:Nat→Prop) (x:MNet) (m:Nat):Prop where
 net:∃ F',a0v w' nb g x m F'∧∀ k,F' k→F k∨w.heap.size≤k
 rest:Alike w w' F
theorem RNs.start {w:World} {nb:Nat} {g:Gr} {x:MNet} {m:Nat} {G:RNLay} {F:Nat→Prop} (h:RNt w nb g x m G) (hF:∀ k,G.foot nb g.n k→F k):RNs w w nb g F x m G:=⟨h,fun k hk=>Or.inl (hF k hk),Alike.refl w F⟩
theorem RNs.did {w y:World} {nb:Nat} {g:Gr} {x:MNet} {m:Nat} {G:RNLay} {F:Nat→Prop} (h:RNs w y nb g F x m G):RNDid w y nb g F x m:=⟨⟨fun k=>G.foot nb g.n k,⟨G,h.n,fun _ h=>h⟩,h.f⟩,h.r⟩
theorem RNDid.none {w y:World} {nb:Nat} {g:Gr} {x:MNet} {m:Nat} {F:Nat→Prop} (h:a0v w nb g x m F) (hb:Below w.heap.size w y):RNDid w y nb g F x (m+1):=by
 obtain ⟨G,h1,h2⟩:=h
 exact (((RNs.start h1 h2).low hb).more (Nat.le_succ m)).did
theorem a0v.alike {w y:World} {nb:Nat} {g:Gr} {x:MNet} {m:Nat} {E F:Nat→Prop} (h:a0v w nb g x m F) (ha:Alike w y E) (hE:∀ k,F k→¬ E k):a0v y nb g x m F:=by
 obtain ⟨G,h1,h2⟩:=h
 exact ⟨G,h1.alike ha (fun k hk=>hE k (h2 k hk)),h2⟩
theorem a0v.low {w y:World} {nb:Nat} {g:Gr} {x:MNet} {m:Nat} {F:Nat→Prop} (h:a0v w nb g x m F) (hb:Below w.heap.size w y):a0v y nb g x m F:=h.alike (Alike.of_below hb (fun _=>False)) (fun _ _ h=>h)
theorem a0v.more {w:World} {nb:Nat} {g:Gr} {x:MNet} {m m':Nat} {F:Nat→Prop} (h:a0v w nb g x m F) (hm:m≤m'):a0v w nb g x m' F:=by
 obtain ⟨G,h1,h2⟩:=h
 exact ⟨G,h1.more hm,h2⟩
theorem a0v.tight {w:World} {nb:Nat} {g:Gr} {x:MNet} {m:Nat} {F:Nat→Prop} (h:a0v w nb g x m F):∃ F0,(∀ k,F0 k→F k∧k<w.heap.size)∧a0v w nb g x m F0:=by
 obtain ⟨G,h1,h2⟩:=h
 exact ⟨fun k=>G.foot nb g.n k,fun k hk=>⟨h2 k hk,h1.lt hk⟩,G,h1,fun _ h=>h⟩
theorem b5y {t:TypeId} {w:World} {b i:Nat} {e:TypeId} {sz:Nat} {ad:Option Addr} {len cap:Nat} {xs:List Value} (ht:∃ cur,w.heap[b]?=some (.cells cur t (0,0))) (hc:w.cell? ⟨b,i,none⟩=some (.slice ad len cap)) (ho:w.ownsRow 0 e sz (.slice ad len cap) len xs):Grw t w w b i e sz ad len xs:=⟨⟨ad,cap,hc,ho,fun _ h=>Or.inl h⟩,Alike.refl w _,fun _ _ _ h=>h,ht⟩
theorem b39 (nb:Nat) (ba:Option Addr) (bc:Nat) (bag ps:List Pk) (bl:Nat) (ao:Option Addr) (cp:Nat) (hl:bag.length+ps.length≤1000000000000) (w:World) (hty:∃ cur,w.heap[nb]?=some (.cells cur 238 (0,0))) (c5:w.cell? ⟨nb,5,none⟩=some (.slice ba bag.length bc)) (hbo:w.ownsRow 0 109 2 (.slice ba bag.length bc) bag.length (prow bag)) (hp:Pks w bl (.slice ao ps.length cp) ps) (hap:∀ j,onB ao j→¬ onB ba j) :
  Calls Tryz.prog 177 #[.pointer (some ⟨nb,0,none⟩),.slice ao ps.length cp] w fun e w'=>e=.returned (.tuple #[])∧Grw 238 w w' nb 5 109 2 ba (bag++ps).length (prow (bag++ps)):=by
 have HP:Hid _:=hp
 have HNe:Hid (∀ j,onB ao j→¬ (j=nb∨onB ba j)):=fun j hj hc=>by
  rcases hc with rfl | hc
  ·obtain ⟨_,e⟩:=a02 hp.own hj
   obtain ⟨_,e'⟩:=hty
   exact ty_ne e e' (by decide) rfl
  ·exact hap j hj hc
 have HG0:Hid (Grw 238 w w nb 5 109 2 ba (bag++ps.take 0).length (prow (bag++ps.take 0))):=by
  have h:=b5y (t:=238) (i:=5) hty c5 hbo
  show Grw _ _ _ _ _ _ _ _ _ _
  simpa using h
 obtain ⟨i0,hi,hz0,hz1,hz2⟩:=info_parts Tryz.a13
 clear hp hap hty c5 hbo
 go_enter Tryz.func177,Tryz.ntmps177
 go_wp2_with fail
 go_loopw [4] (fun c wr=>∃ k:Nat,k≤ps.length∧c=.int .i64 k∧Grw 238 w wr nb 5 109 2 ba (bag++ps.take k).length (prow (bag++ps.take k))) (fun c _=>ps.length-(intOf c).toNat)
 case atStart=>exact ⟨0,Nat.zero_le _,rfl,HG0.out⟩
 case round =>
  obtain ⟨k,hkn,rfl,hG⟩:=hrel
  have HG:Hid _:=hG
  by_cases hlt:k<ps.length
  ·have hki:(k:Int)<(ps.length:Int):=by omega
   obtain ⟨t,ht⟩:∃ t,ps[k]?=some t:=⟨ps[k],List.getElem?_eq_getElem _⟩
   obtain ⟨ga,hav,hgl,p0,p1⟩:=HP.out.get ht
   subst hav
   have hng:=HNe.out ga ⟨0,rfl⟩
   have q0:=hG.rest.cell p0 hng
   have q1:=hG.rest.cell p1 hng
   obtain ⟨wa',wcap',c5,hown,hnew⟩:=hG.how
   have HNew:Hid _:=hnew
   have HTyr:Hid _:=hG.ty
   have hlen:(bag++ps.take k).length+1≤1000000000000:=by simp;omega
   have HTk:Hid (prow (bag++ps.take (k+1))=prow (bag++ps.take k)++[.int .i64 t.to,.string t.text]∧(bag++ps.take (k+1)).length=(bag++ps.take k).length+1):=by
    have e:bag++ps.take (k+1)=(bag++ps.take k)++[t]:=by rw [a3s ht,←List.append_assoc]
    rw [e]
    exact ⟨by rw [a0q (bag++ps.take k)];rfl,List.length_append⟩
   have hnb:some nb≠(Value.slice wa' (bag++ps.take k).length wcap').ownBlock:=fun he=>by
    obtain ⟨cur,e⟩:=HTyr.out
    obtain ⟨_,e'⟩:=a02 hown (a1d hown he.symm)
    exact ty_ne e e' (by decide) rfl
   have fz:=a0h HTyr.out 5
   have hbX:nb<wr.heap.size:=lt_of_cell c5
   have HOw:Hid _:=hown
   have HO:Hid (∀ x:World,Below wr.heap.size wr x→x.ownsRow 0 109 2 (.slice wa' (bag++ps.take k).length wcap') (bag++ps.take k).length (prow (bag++ps.take k))):=fun x hx=>a1a hown hx
   obtain ⟨tn,tx⟩:=t
   simp only at q0 q1 HTk
   have hone:∀ u∈([.int .i64 tn,.string tx]:List Value),u.oneCell'=true:=by
    intro u hu
    simp at hu
    rcases hu with rfl | rfl<;>rfl
   generalize hbg:bag++ps.take k=bg at *
   clear hG hown hnew ht p0 p1 hng
   go_wp2_with fail
   go_region_law
    (refine step_append_lies _ rfl (.tmp 15) (.tmp 20) 54 rfl 0 109 i0 _ 2 24 Tryz.underlying54 hi hz0 hz1 hz2 rfl (by decide) (.slice wa' bg.length wcap') bg.length (prow bg) (by simp [Act.eval]) (HO.out _ (by first | exact (a00 _ _).drew | exact ((Below.refl _ _).drew).trans (a00 _ _) | exact a00 _ _)) ⟨wr.heap.size,0,none⟩ 1 1 [.int .i64 tn,.string tx] (by simp [Act.eval]) rfl (World.news_of_block (heap_alloc_new wr _)) hone (by decide) (by unfold maxLen;omega) (by omega) (Nat.zero_le _) _ rfl ?_;intro g' cap' v1 hown hgrow hat hlt2;have HO1:Hid (World.ownsRow v1 0 109 2 (.slice (some ⟨g',0,none⟩) (bg.length+1) cap') (bg.length+1) (prow bg++[.int .i64 tn,.string tx])):=hown;have HX:Hid (∃ x0:World,∃ H:Nat,Below wr.heap.size wr x0∧x0.grownBy v1 (Value.slice wa' bg.length wcap').ownBlock∧((Value.slice wa' bg.length wcap').ownBlock=some g'∨g'=H)∧wr.heap.size≤H):=⟨_,_,(by first | exact (a00 _ _).drew | exact ((Below.refl _ _).drew).trans (a00 _ _) | exact a00 _ _),hgrow,hat,(by simp)⟩;have c11:v1.cell? ⟨nb,5,none⟩=some (.slice wa' bg.length wcap'):=(hgrow.cell_far ⟨nb,5,none⟩ (by simp;omega) hnb).trans ((Below.cell (B:=wr.heap.size) (w:=wr) (by first | exact (a00 _ _).drew | exact ((Below.refl _ _).drew).trans (a00 _ _) | exact a00 _ _) (p:=⟨nb,5,none⟩) hbX).trans c5);have f11:v1.frozen? ⟨nb,5,none⟩=false:=(hgrow.frozen_far ⟨nb,5,none⟩ (by simp;omega) hnb).trans ((Below.frozen (B:=wr.heap.size) (w:=wr) (by first | exact (a00 _ _).drew | exact ((Below.refl _ _).drew).trans (a00 _ _) | exact a00 _ _) (p:=⟨nb,5,none⟩) hbX).trans fz);clear hown hgrow hat hlt2)
   all_goals
    have HG2:Hid (Grw 238 w (v1.setCell ⟨nb,5,none⟩ (.slice (some ⟨g',0,none⟩) (bg.length+1) cap')) nb 5 109 2 ba (bag++ps.take (k+1)).length (prow (bag++ps.take (k+1)))):=by
     obtain ⟨x0,H,hx0,hgr,hat,hH⟩:=HX.out
     have h0:=a7g (t:=238) (i:=5) (u:=.slice wa' bg.length wcap') HTyr.out (by decide) HOw.out hx0 hgr hat hH HO1.out c11
     rw [HTk.out.1,HTk.out.2]
     exact Grw.trans (len1:=0) HG.out.rest HG.out.others HNew.out h0 (Nat.zero_le _)
    go_wp2_with fail
    go_roundw
    case rel=>exact ⟨k+1,by omega,by go_num,HG2.out⟩
    case measure=>simp [intOf];omega
  ·have hkn':k=ps.length:=by omega
   subst hkn'
   go_wp2_with fail
   refine bodyPost_end (v:=.tuple #[]) (by simp [results,Tryz.results177,go_sem]) rfl ⟨rfl,?_⟩
   have:=HG.out
   rw [List.take_length] at this
   exact this
section
variable {w y:World} {nb:Nat} {g:Gr} {x:MNet} {m:Nat} {G:RNLay} {F:Nat→Prop}
theorem RNt.at (h:RNt w nb g x m G) {p:Nat} (hp:p<g.n):∃ gn,G.na=some ⟨gn,0,none⟩∧w.cell? ⟨gn,p,none⟩=some (.pointer (some ⟨G.rb p,0,none⟩)):=by
 have ho:=h.no
 rcases ho.2 with ⟨_,h0⟩ | ⟨gn,cap,cur,e,_⟩
 ·omega
 ·have e1:G.na=some ⟨gn,0,none⟩:=by injection e
  rw [e1] at ho
  exact ⟨gn,e1,(World.ownsRow.cellAt ho p (by omega)).trans (b3k G.rb hp)⟩
theorem RNt.refAt (h:RNt w nb g x m G) {p:Nat} (hp:p<g.n):∃ gf,G.fa=some ⟨gf,0,none⟩∧w.cell? ⟨gf,p,none⟩=some (.int .i64 (x.ref p))∧w.frozen? ⟨gf,p,none⟩=false:=by
 have ho:=h.fo
 rcases ho.2 with ⟨_,h0⟩ | ⟨gf,cap,cur,e,_⟩
 ·omega
 ·have e1:G.fa=some ⟨gf,0,none⟩:=by injection e
  rw [e1] at ho
  exact ⟨gf,e1,(World.ownsRow.cellAt ho p (by omega)).trans (a7w x hp),a0h (a02 ho ⟨0,rfl⟩) p⟩
theorem RNs.lays (h:RNs w y nb g F x m G) {z:Nat} {v:Value} {ps:List Pk} (hp:Pks y z v ps) (hz:∀ j,onB G.ba j→j<z) (hl:x.bag.length+ps.length≤1000000000000) :
  Calls Tryz.prog 177 #[.pointer (some ⟨nb,0,none⟩),v] y fun e w'=>e=.returned (.tuple #[])∧RNDid w w' nb g F { x with bag:=x.bag++ps } m:=by
 obtain ⟨a,c,rfl⟩:=a01 hp.own
 refine (b39 nb G.ba G.bc x.bag ps z a c hl y h.n.ty h.n.c5 h.n.bo hp (fun j hj hc=>?_)).mono ?_
 ·have h1:=hz j hc
  have h2:z≤j:=by
   rcases hp.own.2 with ⟨e',_⟩ | ⟨g',cap',cur',e',hg',_⟩
   ·injection e' with e1
    rw [e1] at hj
    obtain ⟨_,e''⟩:=hj
    cases e''
   ·injection e' with e1
    rw [e1] at hj
    obtain ⟨_,e''⟩:=hj
    cases e''
    exact hg'
  omega
 ·rintro e w' ⟨rfl,hg⟩
  obtain ⟨ba',bc',h1⟩:=h.bag hg
  exact ⟨rfl,h1.did⟩
end
theorem b6o (nb:Nat) (g:Gr) (x:MNet) (m:Nat) (F:Nat→Prop) (p:Int) (body:ByteArray) (hg:g.Ok) (hx:x.Ok g) (hm:m≤100000000) (w:World) (h:a0v w nb g x m F) :
  Calls Tryz.prog 122 #[.pointer (some ⟨nb,0,none⟩),.int .i64 p,.string body] w fun e w'=>e=.returned (.tuple #[.int .i64 (x.sayR g p body).q,.int .i64 ((x.sayR g p body).k:Int)])∧RNDid w w' nb g F (x.sayR g p body).x (m+1):=by
 have HNo:Hid (Calls Tryz.prog 165 #[.agg #[.int .i64 (g.n:Int),.int .i64 g.W,.int .i64 g.B,.int .i64 g.L],.int .i64 p] w fun e w'=>e=.returned (.bool (a08 g.n p))∧Below w.heap.size w w'):=a2b (g.n:Int) g.W g.B g.L p w
 have HNone:Hid (∀ y,Below w.heap.size w y→RNDid w y nb g F x (m+1)):=fun y hy=>RNDid.none h hy
 obtain ⟨G,hN,hF⟩:=h
 have c0:=hN.c0
 have c1:=hN.c1
 have c2:=hN.c2
 have c3:=hN.c3
 unfold MNet.sayR
 by_cases hi:a08 g.n p=true
 ·rw [if_pos hi]
  rw [hi] at HNo
  obtain ⟨q,rfl,hq⟩:=a0s hi
  have eq:(q:Int).toNat=q:=by omega
  rw [eq]
  have HSy:Hid (∀ y,Below w.heap.size w y→(∃ gn,G.na=some ⟨gn,0,none⟩∧y.cell? ⟨gn,q,none⟩=some (.pointer (some ⟨G.rb q,0,none⟩)))∧y.cell? ⟨nb,4,none⟩=some (.slice G.na g.n G.nc)∧Calls Tryz.prog 108 #[.pointer (some ⟨G.rb q,0,none⟩),.string body] y fun e w2=>∃ v,e=.returned (.tuple #[.int .i64 ((x.nd q).say g q body).q,v,.int .i64 (((x.nd q).say g q body).k:Int)]) ∧
    Calls Tryz.prog 177 #[.pointer (some ⟨nb,0,none⟩),v] w2 fun e w'=>e=.returned (.tuple #[])∧RNDid w w' nb g F (x.say g q body) (m+1)):=fun y hy=>by
   have hs:=(RNs.start hN hF).low hy
   refine ⟨hs.n.at hq,hs.n.c4,(av0 (G.rb q) g q (x.nd q) m (G.Fp q) body hg hq hm y (hs.n.nd q hq)).mono ?_⟩
   rintro e w2 ⟨v,rfl,hd⟩
   obtain ⟨Fp',h2⟩:=hs.node hq (Nat.le_succ m) hd
   refine ⟨v,rfl,?_⟩
   have hb:=hx.len
   have hf:=ad9 g q (x.nd q) body
   have hn:=hg.n
   exact h2.lays hd.pks (fun j hj=>hs.n.lt (Or.inr (Or.inr (Or.inl hj)))) (by show x.bag.length+_≤_;omega)
  have hpi:(q:Int)<(g.n:Int):=by omega
  generalize (x.nd q).say g q body=S at *
  generalize x.say g q body=X' at *
  clear hN hF hi hx
  go_enter Tryz.func122,Tryz.ntmps122
  go_wp2_with fail
  refine (show Calls _ _ _ _ _ from HNo.out).mono ?_
  rintro e w1 ⟨rfl,hb1⟩
  obtain ⟨⟨gn,e1,r0⟩,c4,hcall⟩:=HSy.out w1 hb1
  rw [e1] at c4
  have HCl:Hid _:=hcall
  clear hcall hb1 e1
  go_wp2_with fail
  refine (show Calls _ _ _ _ _ from HCl.out).mono ?_
  rintro e w2 ⟨v,rfl,hla⟩
  have HLa:Hid _:=hla
  clear hla
  go_wp2_with fail
  refine (show Calls _ _ _ _ _ from HLa.out).mono ?_
  rintro e w3 ⟨rfl,hd⟩
  have HD:Hid _:=hd
  clear hd
  go_wp2_with fail
  go_ret2
  exact ⟨rfl,HD.out⟩
 ·have hi':a08 g.n p=false:=by simpa using hi
  rw [if_neg hi]
  rw [hi'] at HNo
  clear hN hF hi hi' hx
  go_enter Tryz.func122,Tryz.ntmps122
  go_wp2_with fail
  refine (show Calls _ _ _ _ _ from HNo.out).mono ?_
  rintro e w1 ⟨rfl,hb1⟩
  have HD:Hid _:=HNone.out w1 hb1
  clear hb1
  go_wp2_with fail
  go_ret2
  exact ⟨rfl,HD.out⟩
theorem b5w (nb:Nat) (g:Gr) (x:MNet) (m:Nat) (F:Nat→Prop) (p:Int) (hg:g.Ok) (hx:x.Ok g) (hm:m≤100000000) (w:World) (h:a0v w nb g x m F) :
  Calls Tryz.prog 123 #[.pointer (some ⟨nb,0,none⟩),.int .i64 p] w fun e w'=>e=.returned (.int .i64 ((x.tickR g p).k:Int))∧RNDid w w' nb g F (x.tickR g p).x (m+1):=by
 have HNo:Hid (Calls Tryz.prog 165 #[.agg #[.int .i64 (g.n:Int),.int .i64 g.W,.int .i64 g.B,.int .i64 g.L],.int .i64 p] w fun e w'=>e=.returned (.bool (a08 g.n p))∧Below w.heap.size w w'):=a2b (g.n:Int) g.W g.B g.L p w
 have HNone:Hid (∀ y,Below w.heap.size w y→RNDid w y nb g F x (m+1)):=fun y hy=>RNDid.none h hy
 obtain ⟨G,hN,hF⟩:=h
 have c0:=hN.c0
 have c1:=hN.c1
 have c2:=hN.c2
 have c3:=hN.c3
 unfold MNet.tickR
 by_cases hi:a08 g.n p=true
 ·rw [if_pos hi]
  rw [hi] at HNo
  obtain ⟨q,rfl,hq⟩:=a0s hi
  have eq:(q:Int).toNat=q:=by omega
  rw [eq]
  have HSy:Hid (∀ y,Below w.heap.size w y→(∃ gn,G.na=some ⟨gn,0,none⟩∧y.cell? ⟨gn,q,none⟩=some (.pointer (some ⟨G.rb q,0,none⟩)))∧y.cell? ⟨nb,4,none⟩=some (.slice G.na g.n G.nc)∧Calls Tryz.prog 111 #[.pointer (some ⟨G.rb q,0,none⟩)] y fun e w2=>∃ a n c,e=.returned (.slice a n c) ∧
    Calls Tryz.prog 177 #[.pointer (some ⟨nb,0,none⟩),.slice a n c] w2 fun e w'=>e=.returned (.tuple #[])∧RNDid w w' nb g F (x.tick g q) (m+1)):=fun y hy=>by
   have hs:=(RNs.start hN hF).low hy
   refine ⟨hs.n.at hq,hs.n.c4,(b2l (G.rb q) g q (x.nd q) m (G.Fp q) hg hq hm y (hs.n.nd q hq)).mono ?_⟩
   rintro e w2 ⟨⟨v,rfl,hp⟩,hb2⟩
   obtain ⟨a,c,rfl⟩:=a01 hp.own
   refine ⟨a,_,c,rfl,?_⟩
   have hb:=hx.len
   have hf:=a7z hg (hx.nd q hq)
   exact (((hs.low hb2).more (Nat.le_succ m)).lays hp (fun j hj=>hs.n.lt (Or.inr (Or.inr (Or.inl hj)))) (by omega))
  have hpi:(q:Int)<(g.n:Int):=by omega
  generalize x.tick g q=X' at *
  clear hN hF hi hx
  go_enter Tryz.func123,Tryz.ntmps123
  go_wp2_with fail
  refine (show Calls _ _ _ _ _ from HNo.out).mono ?_
  rintro e w1 ⟨rfl,hb1⟩
  obtain ⟨⟨gn,e1,r0⟩,c4,hcall⟩:=HSy.out w1 hb1
  rw [e1] at c4
  have HCl:Hid _:=hcall
  clear hcall hb1 e1
  go_wp2_with fail
  refine (show Calls _ _ _ _ _ from HCl.out).mono ?_
  rintro e w2 ⟨a,n,c,rfl,hla⟩
  have HLa:Hid _:=hla
  clear hla
  go_wp2_with fail
  refine (show Calls _ _ _ _ _ from HLa.out).mono ?_
  rintro e w3 ⟨rfl,hd⟩
  have HD:Hid _:=hd
  clear hd
  go_wp2_with fail
  go_ret
  exact ⟨rfl,HD.out⟩
 ·have hi':a08 g.n p=false:=by simpa using hi
  rw [if_neg hi]
  rw [hi'] at HNo
  clear hN hF hi hi' hx
  go_enter Tryz.func123,Tryz.ntmps123
  go_wp2_with fail
  refine (show Calls _ _ _ _ _ from HNo.out).mono ?_
  rintro e w1 ⟨rfl,hb1⟩
  have HD:Hid _:=HNone.out w1 hb1
  clear hb1
  go_wp2_with fail
  go_ret
  exact ⟨rfl,HD.out⟩
theorem b2e (nb:Nat) (g:Gr) (x:MNet) (m:Nat) (F:Nat→Prop) (p:Int) (hg:g.Ok) (w:World) (h:a0v w nb g x m F) :
  Calls Tryz.prog 130 #[.pointer (some ⟨nb,0,none⟩),.int .i64 p] w fun e w'=>(∃ v,e=.returned (.tuple #[v,.int .i64 ((x.a2l g p).k:Int)])∧Wrd w' w.heap.size v (x.a2l g p).l)∧Below w.heap.size w w':=by
 have HNo:Hid (Calls Tryz.prog 165 #[.agg #[.int .i64 (g.n:Int),.int .i64 g.W,.int .i64 g.B,.int .i64 g.L],.int .i64 p] w fun e w'=>e=.returned (.bool (a08 g.n p))∧Below w.heap.size w w'):=a2b (g.n:Int) g.W g.B g.L p w
 obtain ⟨G,hN,hF⟩:=h
 have c0:=hN.c0
 have c1:=hN.c1
 have c2:=hN.c2
 have c3:=hN.c3
 unfold MNet.a2l
 by_cases hi:a08 g.n p=true
 ·rw [if_pos hi]
  rw [hi] at HNo
  obtain ⟨q,rfl,hq⟩:=a0s hi
  have eq:(q:Int).toNat=q:=by omega
  rw [eq]
  have HSy:Hid (∀ y,Below w.heap.size w y→(∃ gn,G.na=some ⟨gn,0,none⟩∧y.cell? ⟨gn,q,none⟩=some (.pointer (some ⟨G.rb q,0,none⟩)))∧y.cell? ⟨nb,4,none⟩=some (.slice G.na g.n G.nc)∧Calls Tryz.prog 112 #[.pointer (some ⟨G.rb q,0,none⟩)] y fun e w2=>∃ v,e=.returned v∧Wrd w2 w.heap.size v (x.nd q).hs∧Below w.heap.size w w2):=fun y hy=>by
   have hs:=hN.low hy
   refine ⟨hs.at hq,hs.c4,(au1 (G.rb q) g q (x.nd q) m (G.Fp q) hg hq y (hs.nd q hq)).mono ?_⟩
   rintro e w2 ⟨⟨v,rfl,hp⟩,hb2⟩
   exact ⟨v,rfl,hp.mono hy.size,bthen hy hb2⟩
  have hpi:(q:Int)<(g.n:Int):=by omega
  generalize (x.nd q).hs=ls at *
  clear hN hF hi
  go_enter Tryz.func130,Tryz.ntmps130
  go_wp2_with fail
  refine (show Calls _ _ _ _ _ from HNo.out).mono ?_
  rintro e w1 ⟨rfl,hb1⟩
  obtain ⟨⟨gn,e1,r0⟩,c4,hcall⟩:=HSy.out w1 hb1
  rw [e1] at c4
  have HCl:Hid _:=hcall
  clear hcall hb1 e1
  go_wp2_with fail
  refine (show Calls _ _ _ _ _ from HCl.out).mono ?_
  rintro e w2 ⟨v,rfl,hw2,hb2⟩
  obtain ⟨av,cv,hsh⟩:=a01 hw2.own
  subst hsh
  have HW2:Hid _:=hw2
  have HB2:Hid (Below w.heap.size w w2):=hb2
  clear hw2 hb2
  go_wp2_with fail
  go_ret2
  exact ⟨⟨_,rfl,HW2.out⟩,HB2.out⟩
 ·have hi':a08 g.n p=false:=by simpa using hi
  rw [if_neg hi]
  rw [hi'] at HNo
  clear hN hF hi hi'
  go_enter Tryz.func130,Tryz.ntmps130
  go_wp2_with fail
  refine (show Calls _ _ _ _ _ from HNo.out).mono ?_
  rintro e w1 ⟨rfl,hb1⟩
  have HB1:Hid (Below w.heap.size w w1):=hb1
  clear hb1
  go_wp2_with fail
  go_ret2
  exact ⟨⟨_,rfl,⟨by simp [wrow],Or.inl ⟨rfl,rfl⟩⟩⟩,HB1.out⟩
theorem b2z (nb:Nat) (g:Gr) (x:MNet) (m:Nat) (F:Nat→Prop) (p:Int) (hg:g.Ok) (hm:m≤100000000) (w:World) (h:a0v w nb g x m F) :
  Calls Tryz.prog 131 #[.pointer (some ⟨nb,0,none⟩),.int .i64 p] w fun e w'=>(∃ v,e=.returned (.tuple #[v,.int .i64 ((x.a2k g p).k:Int)])∧Wrd w' w.heap.size v (x.a2k g p).l)∧Below w.heap.size w w':=by
 have HNo:Hid (Calls Tryz.prog 165 #[.agg #[.int .i64 (g.n:Int),.int .i64 g.W,.int .i64 g.B,.int .i64 g.L],.int .i64 p] w fun e w'=>e=.returned (.bool (a08 g.n p))∧Below w.heap.size w w'):=a2b (g.n:Int) g.W g.B g.L p w
 obtain ⟨G,hN,hF⟩:=h
 have c0:=hN.c0
 have c1:=hN.c1
 have c2:=hN.c2
 have c3:=hN.c3
 unfold MNet.a2k
 by_cases hi:a08 g.n p=true
 ·rw [if_pos hi]
  rw [hi] at HNo
  obtain ⟨q,rfl,hq⟩:=a0s hi
  have eq:(q:Int).toNat=q:=by omega
  rw [eq]
  have HSy:Hid (∀ y,Below w.heap.size w y→(∃ gn,G.na=some ⟨gn,0,none⟩∧y.cell? ⟨gn,q,none⟩=some (.pointer (some ⟨G.rb q,0,none⟩)))∧y.cell? ⟨nb,4,none⟩=some (.slice G.na g.n G.nc)∧Calls Tryz.prog 115 #[.pointer (some ⟨G.rb q,0,none⟩)] y fun e w2=>∃ v,e=.returned v∧Wrd w2 w.heap.size v (x.nd q).kept∧Below w.heap.size w w2):=fun y hy=>by
   have hs:=hN.low hy
   refine ⟨hs.at hq,hs.c4,(ax3 (G.rb q) g q (x.nd q) m (G.Fp q) hg hq hm y (hs.nd q hq)).mono ?_⟩
   rintro e w2 ⟨⟨v,rfl,hp⟩,hb2⟩
   exact ⟨v,rfl,hp.mono hy.size,bthen hy hb2⟩
  have hpi:(q:Int)<(g.n:Int):=by omega
  generalize (x.nd q).kept=ls at *
  clear hN hF hi
  go_enter Tryz.func131,Tryz.ntmps131
  go_wp2_with fail
  refine (show Calls _ _ _ _ _ from HNo.out).mono ?_
  rintro e w1 ⟨rfl,hb1⟩
  obtain ⟨⟨gn,e1,r0⟩,c4,hcall⟩:=HSy.out w1 hb1
  rw [e1] at c4
  have HCl:Hid _:=hcall
  clear hcall hb1 e1
  go_wp2_with fail
  refine (show Calls _ _ _ _ _ from HCl.out).mono ?_
  rintro e w2 ⟨v,rfl,hw2,hb2⟩
  obtain ⟨av,cv,hsh⟩:=a01 hw2.own
  subst hsh
  have HW2:Hid _:=hw2
  have HB2:Hid (Below w.heap.size w w2):=hb2
  clear hw2 hb2
  go_wp2_with fail
  go_ret2
  exact ⟨⟨_,rfl,HW2.out⟩,HB2.out⟩
 ·have hi':a08 g.n p=false:=by simpa using hi
  rw [if_neg hi]
  rw [hi'] at HNo
  clear hN hF hi hi'
  go_enter Tryz.func131,Tryz.ntmps131
  go_wp2_with fail
  refine (show Calls _ _ _ _ _ from HNo.out).mono ?_
  rintro e w1 ⟨rfl,hb1⟩
  have HB1:Hid (Below w.heap.size w w1):=hb1
  clear hb1
  go_wp2_with fail
  go_ret2
  exact ⟨⟨_,rfl,⟨by simp [wrow],Or.inl ⟨rfl,rfl⟩⟩⟩,HB1.out⟩
theorem aq2 (nb:Nat) (g:Gr) (x:MNet) (m:Nat) (F:Nat→Prop) (p:Int) (w:World) (h:a0v w nb g x m F) :
  Calls Tryz.prog 132 #[.pointer (some ⟨nb,0,none⟩),.int .i64 p] w fun e w'=>e=.returned (.tuple #[.int .i64 (x.a1s g p).q,.int .i64 ((x.a1s g p).k:Int)])∧Below w.heap.size w w':=by
 have HNo:Hid (Calls Tryz.prog 165 #[.agg #[.int .i64 (g.n:Int),.int .i64 g.W,.int .i64 g.B,.int .i64 g.L],.int .i64 p] w fun e w'=>e=.returned (.bool (a08 g.n p))∧Below w.heap.size w w'):=a2b (g.n:Int) g.W g.B g.L p w
 obtain ⟨G,hN,hF⟩:=h
 have c0:=hN.c0
 have c1:=hN.c1
 have c2:=hN.c2
 have c3:=hN.c3
 unfold MNet.a1s
 by_cases hi:a08 g.n p=true
 ·rw [if_pos hi]
  rw [hi] at HNo
  obtain ⟨q,rfl,hq⟩:=a0s hi
  have eq:(q:Int).toNat=q:=by omega
  rw [eq]
  have HSy:Hid (∀ y,Below w.heap.size w y→(∃ gf,G.fa=some ⟨gf,0,none⟩∧y.cell? ⟨gf,q,none⟩=some (.int .i64 (x.ref q))∧y.frozen? ⟨gf,q,none⟩=false)∧y.cell? ⟨nb,6,none⟩=some (.slice G.fa g.n G.fc)):=fun y hy=>⟨(hN.low hy).refAt hq,(hN.low hy).c6⟩
  have hpi:(q:Int)<(g.n:Int):=by omega
  clear hN hF hi
  go_enter Tryz.func132,Tryz.ntmps132
  go_wp2_with fail
  refine (show Calls _ _ _ _ _ from HNo.out).mono ?_
  rintro e w1 ⟨rfl,hb1⟩
  obtain ⟨⟨gf,e1,r0,_⟩,c6⟩:=HSy.out w1 hb1
  rw [e1] at c6
  have HB1:Hid (Below w.heap.size w w1):=hb1
  clear hb1 e1
  go_wp2_with fail
  go_ret2
  exact ⟨rfl,HB1.out⟩
 ·have hi':a08 g.n p=false:=by simpa using hi
  rw [if_neg hi]
  rw [hi'] at HNo
  clear hN hF hi hi'
  go_enter Tryz.func132,Tryz.ntmps132
  go_wp2_with fail
  refine (show Calls _ _ _ _ _ from HNo.out).mono ?_
  rintro e w1 ⟨rfl,hb1⟩
  have HB1:Hid (Below w.heap.size w w1):=hb1
  clear hb1
  go_wp2_with fail
  go_ret2
  exact ⟨rfl,HB1.out⟩
theorem b4z (nb:Nat) (g:Gr) (x:MNet) (m:Nat) (F:Nat→Prop) (w:World) (h:a0v w nb g x m F) :
  Calls Tryz.prog 128 #[.pointer (some ⟨nb,0,none⟩)] w fun e w'=>e=.returned (.int .i64 (x.bag.length:Int))∧w'=w:=by
 obtain ⟨G,hN,_⟩:=h
 have c5:=hN.c5
 clear hN
 go_enter Tryz.func128,Tryz.ntmps128
 go_wp2_with fail
 go_ret
 exact ⟨rfl,rfl⟩
theorem a4p (nb:Nat) (g:Gr) (x:MNet) (m:Nat) (F:Nat→Prop) (k:Int) (w:World) (h:a0v w nb g x m F) :
  Calls Tryz.prog 129 #[.pointer (some ⟨nb,0,none⟩),.int .i64 k] w fun e w'=>e=.returned (.tuple #[.agg #[.int .i64 (x.peekR k).t.to,.string (x.peekR k).t.text],.int .i64 ((x.peekR k).k:Int)])∧Below w.heap.size w w':=by
 obtain ⟨G,hN,_⟩:=h
 have HN:Hid _:=hN.low (a00 w (.cells #[.int .i64 0,.string ⟨#[]⟩] 109))
 have c5:=HN.out.c5
 clear hN
 unfold MNet.peekR
 cases hx:x.at k with
 | some t =>
  obtain ⟨q,rfl,hq⟩:=a3z hx
  have hql:=(List.getElem?_eq_some_iff.1 hq).1
  have hP:Pks (w.alloc (.cells #[.int .i64 0,.string ⟨#[]⟩] 109)) 0 (.slice G.ba x.bag.length G.bc) x.bag:=⟨HN.out.bo⟩
  obtain ⟨ga,e1,_,p0,p1⟩:=hP.get hq
  rw [e1] at c5
  have hb0:decide ((q:Int)<0)=false:=decide_eq_false (by omega)
  have hb1:decide ((x.bag.length:Int)≤(q:Int))=false:=decide_eq_false (by omega)
  have hqi:(q:Int)<(x.bag.length:Int):=by omega
  obtain ⟨tn,tx⟩:=t
  simp only at p0 p1
  clear hP hq hx e1 HN
  go_enter Tryz.func129,Tryz.ntmps129
  go_wp2_with fail
  have e0:∀ i,(w.alloc (.cells #[.int .i64 tn,.string tx] 109)).cell? ⟨w.heap.size,i,none⟩=#[Value.int .i64 tn,.string tx][i]?:=fun i=>cell_of_row _ _ i _ _ (0,0) (heap_alloc_new _ _)
  have q0:(w.alloc (.cells #[.int .i64 tn,.string tx] 109)).cell? ⟨w.heap.size,0,none⟩=some (.int .i64 tn):=e0 0
  have q1:(w.alloc (.cells #[.int .i64 tn,.string tx] 109)).cell? ⟨w.heap.size,1,none⟩=some (.string tx):=e0 1
  have HBE:Hid (Below w.heap.size w (w.alloc (.cells #[.int .i64 tn,.string tx] 109))):=a00 _ _
  clear e0
  generalize w.alloc (.cells #[.int .i64 tn,.string tx] 109)=Z at *
  refine bodyPost_ret (v:=.tuple #[.agg #[.int .i64 tn,.string tx],.int .i64 0]) (by simp [results,Tryz.results129,go_sem,q0,q1]) rfl ⟨rfl,HBE.out⟩
 | none =>
  have hn:=a8f hx
  have hn':¬ (0≤k∧k<(x.bag.length:Int)):=by simpa [a08] using hn
  clear hx hn HN
  by_cases hk:k<0
  ·have hb0:decide (k<0)=true:=decide_eq_true hk
   go_enter Tryz.func129,Tryz.ntmps129
   go_wp2_with fail
   have e0:∀ i,(w.alloc (.cells #[.int .i64 0,.string ⟨#[]⟩] 109)).cell? ⟨w.heap.size,i,none⟩=#[Value.int .i64 0,.string ⟨#[]⟩][i]?:=fun i=>cell_of_row _ _ i _ _ (0,0) (heap_alloc_new _ _)
   have q0:(w.alloc (.cells #[.int .i64 0,.string ⟨#[]⟩] 109)).cell? ⟨w.heap.size,0,none⟩=some (.int .i64 0):=e0 0
   have q1:(w.alloc (.cells #[.int .i64 0,.string ⟨#[]⟩] 109)).cell? ⟨w.heap.size,1,none⟩=some (.string ⟨#[]⟩):=e0 1
   have HBE:Hid (Below w.heap.size w (w.alloc (.cells #[.int .i64 0,.string ⟨#[]⟩] 109))):=a00 _ _
   clear e0
   generalize w.alloc (.cells #[.int .i64 0,.string ⟨#[]⟩] 109)=Z at *
   refine bodyPost_ret (v:=.tuple #[.agg #[.int .i64 0,.string ⟨#[]⟩],.int .i64 1]) (by simp [results,Tryz.results129,go_sem,q0,q1]) rfl ⟨rfl,HBE.out⟩
  ·have hb0:decide (k<0)=false:=decide_eq_false hk
   have hb1:decide ((x.bag.length:Int)≤k)=true:=decide_eq_true (by omega)
   go_enter Tryz.func129,Tryz.ntmps129
   go_wp2_with fail
   have e0:∀ i,(w.alloc (.cells #[.int .i64 0,.string ⟨#[]⟩] 109)).cell? ⟨w.heap.size,i,none⟩=#[Value.int .i64 0,.string ⟨#[]⟩][i]?:=fun i=>cell_of_row _ _ i _ _ (0,0) (heap_alloc_new _ _)
   have q0:(w.alloc (.cells #[.int .i64 0,.string ⟨#[]⟩] 109)).cell? ⟨w.heap.size,0,none⟩=some (.int .i64 0):=e0 0
   have q1:(w.alloc (.cells #[.int .i64 0,.string ⟨#[]⟩] 109)).cell? ⟨w.heap.size,1,none⟩=some (.string ⟨#[]⟩):=e0 1
   have HBE:Hid (Below w.heap.size w (w.alloc (.cells #[.int .i64 0,.string ⟨#[]⟩] 109))):=a00 _ _
   clear e0
   generalize w.alloc (.cells #[.int .i64 0,.string ⟨#[]⟩] 109)=Z at *
   refine bodyPost_ret (v:=.tuple #[.agg #[.int .i64 0,.string ⟨#[]⟩],.int .i64 1]) (by simp [results,Tryz.results129,go_sem,q0,q1]) rfl ⟨rfl,HBE.out⟩
end Go.Proofs.YtabecbjfamphbaaGreatDoor
