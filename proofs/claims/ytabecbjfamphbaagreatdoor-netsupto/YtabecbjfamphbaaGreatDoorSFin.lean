/-
  Proved: the law hearsaylaw.Nets answers true for every script, and leaves its argument as it was: every call of several nets, of one group or of several, in turns, answers as the document's net answers; whatever is sent into them; and every list that came out stays the caller's.
  Its conditions: what is handed in is of bulk at most 1048576 (the second form's own premise), and what the listed variables hold, tied to the program's text by the card.
-/
import Derived.Test.YtabecbjfamphbaaGreatDoorS23
import Derived.Test.YtabecbjfamphbaaGreatDoorS24
import Derived.Test.YtabecbjfamphbaaGreatDoorS41
import Derived.Test.YtabecbjfamphbaaGreatDoorTie
import Derived.Test.YtabecbjfamphbaaGreatDoorCards
import Derived.Stop.LaidTwo
import Derived.Deep.DeepHandedRow
import Derived.Deep.DeepWitnessRowRef
import Derived.Carry
namespace Go.Proofs.YtabecbjfamphbaaGreatDoor
open Go.ChangeShapes Go.WideShapes Go.ChangeAt Go.WideMaps Go.WideElems Go.RowKit Go.Joins Go.Deep
set_option maxRecDepth 100000

theorem net_contract (H : Type) (enc : TypeId × Value → H) (W : World) (base : Nat) (args : Array Value) (ds gs : List (DataW H)) (before : List MemPlace)
    (hval0 : ∀ (j : Nat) t v, Tryz.f4.params[j]? = some t → args[j]? = some v → Value.okWide Tryz.prog W .any base t v)
    (hW : DataW.Whole enc Tryz.prog Tryz.f4.params.toList Rows.netsSpec.vars false W args.toList ds gs before) (hk : Rows.uptoSmall H (ds ++ gs) = true) (hL : laidMetH Tryz.prog Rows.netsRow.laid W) :
    Calls Tryz.prog 4 args W fun e W' => ∃ v, e = .returned v ∧ Rows.netsSpec.post enc Tryz.prog Tryz.f4 false true false false W args v W' := by
  have hval : ∀ (j : Nat) t v, Tryz.f4.params[j]? = some t → args[j]? = some v → Value.okWide Tryz.prog W .any base t v := hval0
  have hW' := hW
  obtain ⟨p, q, hA0, hV, rfl, hfz, hnd⟩ := hW
  have hA : DataW.TrodAll enc Tryz.prog W 0 (fun _ => true) true Tryz.f4.params.toList args.toList ds p := hA0
  rw [Tryz.params4] at hA hval
  obtain ⟨v0, d0, rfl, rfl, h0⟩ := trodAll_one hA
  obtain ⟨rfl, rfl⟩ := trodVars_none hV
  have eL : Rows.netsRow.laid = Rows.boundedRow.laid := by kernel_rfl
  rw [eL] at hL
  obtain ⟨⟨A, hsl⟩, _⟩ := slT_of hL
  obtain ⟨ad, cap, ops, rfl, hscr, hlen⟩ := ops_of (hval 0 22 v0 rfl rfl) h0
  have hbd := bulk_bound hk
  have hpt := bulk_part (d := d0) (l := [d0] ++ []) (by simp)
  refine (netsLaw_any A ad cap ops (by omega) W hsl hscr).mono fun e W2 ⟨he, hb⟩ => ?_
  subst he
  have lt : ∀ x ∈ p, x.block < W.heap.size := fun x hx => by simpa using hW'.lt x (by simpa using hx)
  refine ⟨_, rfl, _, _, _, [], p, [], hW', trodAll_mk1 (shut_bool Tryz.underlying4 true),
    trodAll_mk1 (hb.trod Tryz.laidOut (by kernel_rfl) (of_decide_eq_true (by kernel_rfl)) h0 (fun x hx => lt x (by simp [hx]))), rfl, hb.frame _, fun h => by cases h⟩
/-- The heap that the program's own start leaves meets the row's condition. -/
theorem net_door_met (os : Os) (args : Array Value) : laidMetH Tryz.prog Rows.netsUptoRow.laid ((World.doorLaid Tryz.prog 168 os).forCall (fun _ _ => 0) ⟨#[], args, []⟩).memory :=
  laidMetH_of_parts3 (fuel := 8) (laidMet_of_run' 8 (by kernel_rfl) (by kernel_rfl)) (by kernel_rfl) (by kernel_rfl)
theorem net_reads (os : Os) {H : Type} (enc : TypeId × Value → H) : ∃ places, DataW.whole enc Tryz.prog ((World.doorLaid Tryz.prog 168 os).forCall (fun _ _ => 0) ⟨#[], #[.slice none 0 0], []⟩).memory Tryz.f4.params.toList Rows.netsSpec.vars false #[Value.slice none 0 0].toList 8 = some ([.nil], [], places) :=
  ⟨[], by kernel_rfl⟩

theorem net_lifted (os : Os) (started : os.Started) (H : Type) (enc : TypeId × Value → H) (F : Stop.Interp) :
    ReturnsInHanded {} Tryz.checked os 4 .any ((Rows.OpenSpec.upto Rows.netsSpec).preRow enc Tryz.prog Tryz.f4 Rows.netsUptoRow.domain false Rows.netsUptoRow.laid) (((Rows.OpenSpec.upto Rows.netsSpec).at F).post enc Tryz.prog Tryz.f4 false true false false) := by
  obtain ⟨places, hx⟩ := net_reads os enc
  refine returnsInHanded_of_row (C := Tryz.checked) (s := Rows.OpenSpec.upto Rows.netsSpec) Tryz.own started (by kernel_rfl) Tryz.func4
    (witness_row_atRef (enc := enc) (C := Tryz.checked) false (World.doorLaid Tryz.prog 168 os) #[.slice none 0 0] rfl (by kernel_rfl) (by kernel_rfl) (by kernel_rfl)
      (OpenSpec.preRow_of_cond 8 hx (by kernel_rfl) (fun k hk => by cases hk; kernel_rfl) (by kernel_rfl) (net_door_met os _))) ?_
  intro W base args ds gs before hval hW _ hcond _ hL _ _
  exact net_contract H enc W base args ds gs before hval hW (hcond _ rfl) hL

theorem nets_holds : Rows.NetsUptoSaid :=
  OpenClaim.holds_of_cond 4 Tryz.f4 rfl rfl rfl rfl rfl rfl rfl ⟨rfl, rfl, rfl, rfl, rfl⟩ rfl rfl rfl rfl rfl (by kernel_rfl) Tryz.func4 (by kernel_rfl)
    (of_decide_eq_true (by kernel_rfl)) (by unfold Func.isWrapper; rw [if_neg (of_decide_eq_false (by kernel_rfl))]; exact ⟨rfl, rfl⟩)
    (fun os started H enc _ F => by rw [OpenClaim.pre_eq_preRow]; exact net_lifted os started H enc F)

theorem nets_card_holds : Rows.NetsUptoCardSaid :=
  Claim7.holds_tied_plain_at .later [] _ _ _ _
    nets_holds (fun _ h => by cases h) (by kernel_rfl) (fun _ h => by cases h) netsUpto_row_tie rfl ⟨rfl, rfl⟩ (by kernel_rfl) rfl
    (fun f fn hf hfn => by
      obtain rfl : f = 4 := Option.some.inj ((show Tryz.prog.funcNamed Rows.netsUptoRow.func = some 4 by kernel_rfl).symm.trans hf) |>.symm
      obtain rfl : fn = Tryz.f4 := (Option.some.inj (Tryz.func4.symm.trans hfn)).symm
      exact ⟨by kernel_rfl, fun j t ht => by
        rw [Tryz.params4] at ht
        have hm : t ∈ [22] := by simpa using Array.mem_of_getElem? ht
        have hall : ([22].all fun u => !Tryz.prog.wantsStandIn u) = true := by kernel_rfl
        exact (show Tryz.prog.wantsStandIn t = false by simpa using List.all_eq_true.1 hall t hm)⟩)
    (by kernel_rfl)
#print axioms nets_card_holds
end Go.Proofs.YtabecbjfamphbaaGreatDoor
