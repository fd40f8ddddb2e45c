/-
  Proved: the law hearsaylaw.All answers true for every script, and leaves its argument as it was: every call, in every order, again and again, answers as the document's answers: sums, texts of frames, several nodes and several nets of several groups in turns; and every list that came out stays the caller's.
  Its conditions: what is handed in is of bulk at most 1048576 (the second form's own premise), and what the listed variables hold, tied to the program's text by the card.
-/
import Derived.Test.YtabecbjfamphbaaGreatDoorM48
import Derived.Test.YtabecbjfamphbaaGreatDoorTie
import Derived.Test.YtabecbjfamphbaaGreatDoorCards
import Derived.Deep.DeepHandedRow
import Derived.Deep.DeepWitnessRowRef
import Derived.Carry
namespace Go.Proofs.YtabecbjfamphbaaGreatDoor
open Go.ChangeShapes Go.WideShapes Go.ChangeAt Go.WideMaps Go.WideElems Go.RowKit Go.Joins Go.Deep
set_option maxRecDepth 100000
theorem ai8 (H:Type) (enc:TypeId × Value→H) (W:World) (base:Nat) (args:Array Value) (ds gs:List (DataW H)) (before:List MemPlace)
  (hval0:∀ (j:Nat) t v,Tryz.f10.params[j]?=some t→args[j]?=some v→Value.okWide Tryz.prog W .any base t v)
  (hW:DataW.Whole enc Tryz.prog Tryz.f10.params.toList Rows.allSpec.vars false W args.toList ds gs before) (hk:Rows.uptoSmall H (ds++gs)=true) (hL:laidMetH Tryz.prog Rows.allRow.laid W) :
  Calls Tryz.prog 10 args W fun e W'=>∃ v,e=.returned v∧Rows.allSpec.post enc Tryz.prog Tryz.f10 false true false false W args v W':=by
 have hval:∀ (j:Nat) t v,Tryz.f10.params[j]?=some t→args[j]?=some v→Value.okWide Tryz.prog W .any base t v:=hval0
 have hW':=hW
 obtain ⟨p,q,hA0,hV,rfl,hfz,hnd⟩:=hW
 have hA:DataW.TrodAll enc Tryz.prog W 0 (fun _=>true) true Tryz.f10.params.toList args.toList ds p:=hA0
 rw [Tryz.params10] at hA hval
 obtain ⟨v0,d0,rfl,rfl,h0⟩:=trodAll_one hA
 obtain ⟨rfl,rfl⟩:=trodVars_none hV
 have eL:Rows.allRow.laid=Rows.boundedRow.laid:=by kernel_rfl
 rw [eL] at hL
 obtain ⟨⟨A,hsl⟩,hT⟩:=b7x hL
 obtain ⟨ad,cap,ops,rfl,hscr,hvk,hlen⟩:=b6v (hval 0 22 v0 rfl rfl) h0
 have hbd:=ax5 hk
 have hpt:=a6j (d:=d0) (l:=[d0]++[]) (by simp)
 refine (b0p A ad cap ops (by omega) W hsl hT hscr (fun o ho=>⟨by have:=(hvk o ho).fl;omega,(hvk o ho).nil⟩)).mono fun e W2 ⟨he,hb⟩=>?_
 subst he
 have lt:∀ x∈p,x.block<W.heap.size:=fun x hx=>by simpa using hW'.lt x (by simpa using hx)
 refine ⟨_,rfl,_,_,_,[],p,[],hW',trodAll_mk1 (shut_bool Tryz.underlying4 true),
  trodAll_mk1 (hb.trod Tryz.laidOut (by kernel_rfl) (of_decide_eq_true (by kernel_rfl)) h0 (fun x hx=>lt x (by simp [hx]))),rfl,hb.frame _,fun h=>by cases h⟩
theorem ai2 (os:Os) (args:Array Value):laidMetH Tryz.prog Rows.allUptoRow.laid ((World.doorLaid Tryz.prog 168 os).forCall (fun _ _=>0) ⟨#[],args,[]⟩).memory:=
 laidMetH_of_parts3 (fuel:=8) (laidMet_of_run' 8 (by kernel_rfl) (by kernel_rfl)) (by kernel_rfl) (by kernel_rfl)
theorem b3d (os:Os) {H:Type} (enc:TypeId × Value→H):∃ places,DataW.whole enc Tryz.prog ((World.doorLaid Tryz.prog 168 os).forCall (fun _ _=>0) ⟨#[],#[.slice none 0 0],[]⟩).memory Tryz.f10.params.toList Rows.allSpec.vars false #[Value.slice none 0 0].toList 8=some ([.nil],[],places):=
 ⟨[],by kernel_rfl⟩
theorem az1 (os:Os) (started:os.Started) (H:Type) (enc:TypeId × Value→H) (F:Stop.Interp) :
  ReturnsInHanded {} Tryz.checked os 10 .any ((Rows.OpenSpec.upto Rows.allSpec).preRow enc Tryz.prog Tryz.f10 Rows.allUptoRow.domain false Rows.allUptoRow.laid) (((Rows.OpenSpec.upto Rows.allSpec).at F).post enc Tryz.prog Tryz.f10 false true false false):=by
 obtain ⟨places,hx⟩:=b3d os enc
 refine returnsInHanded_of_row (C:=Tryz.checked) (s:=Rows.OpenSpec.upto Rows.allSpec) Tryz.own started (by kernel_rfl) Tryz.func10
  (witness_row_atRef (enc:=enc) (C:=Tryz.checked) false (World.doorLaid Tryz.prog 168 os) #[.slice none 0 0] rfl (by kernel_rfl) (by kernel_rfl) (by kernel_rfl)
   (OpenSpec.preRow_of_cond 8 hx (by kernel_rfl) (fun k hk=>by cases hk;kernel_rfl) (by kernel_rfl) (ai2 os _))) ?_
 intro W base args ds gs before hval hW _ hcond _ hL _ _
 exact ai8 H enc W base args ds gs before hval hW (hcond _ rfl) hL
theorem b0x:Rows.AllUptoSaid:=
 OpenClaim.holds_of_cond 10 Tryz.f10 rfl rfl rfl rfl rfl rfl rfl ⟨rfl,rfl,rfl,rfl,rfl⟩ rfl rfl rfl rfl rfl (by kernel_rfl) Tryz.func10 (by kernel_rfl)
  (of_decide_eq_true (by kernel_rfl)) (by unfold Func.isWrapper;rw [if_neg (of_decide_eq_false (by kernel_rfl))];exact ⟨rfl,rfl⟩)
  (fun os started H enc _ F=>by rw [OpenClaim.pre_eq_preRow];exact az1 os started H enc F)
theorem all_card_holds:Rows.AllUptoCardSaid:=
 Claim7.holds_tied_plain_at .later [] _ _ _ _
  b0x (fun _ h=>by cases h) (by kernel_rfl) (fun _ h=>by cases h) allUpto_row_tie rfl ⟨rfl,rfl⟩ (by kernel_rfl) rfl
  (fun f fn hf hfn=>by
   obtain rfl:f=10:=Option.some.inj ((show Tryz.prog.funcNamed Rows.allUptoRow.func=some 10 by kernel_rfl).symm.trans hf) |>.symm
   obtain rfl:fn=Tryz.f10:=(Option.some.inj (Tryz.func10.symm.trans hfn)).symm
   exact ⟨by kernel_rfl,fun j t ht=>by
    rw [Tryz.params10] at ht
    have hm:t∈[22]:=by simpa using Array.mem_of_getElem? ht
    have hall:([22].all fun u=>!Tryz.prog.wantsStandIn u)=true:=by kernel_rfl
    exact (show Tryz.prog.wantsStandIn t=false by simpa using List.all_eq_true.1 hall t hm)⟩)
  (by kernel_rfl)
#print axioms all_card_holds
end Go.Proofs.YtabecbjfamphbaaGreatDoor
