/-
  Proved: the law hearsaykeep.Reread answers true for every group, frame, two numbers and text, and leaves its arguments as they were: any frame of any group is read back from its bytes, by a wider group too; with one byte another its bytes are none; what is read as a frame is that frame's bytes.
  No condition but those of the row itself (what the listed variables hold, tied to the program's text by the card).
-/
import Derived.Test.YtabecbjfamphbaaDoorOpen
import Derived.Test.YtabecbjfamphbaaDoorRer
import Derived.Test.YtabecbjfamphbaaDoorLaidE
import Derived.Test.YtabecbjfamphbaaDoorTie
import Derived.Test.YtabecbjfamphbaaDoorCards
namespace Go.Proofs.YtabecbjfamphbaaDoor
open Go.ChangeShapes Go.WideShapes Go.ChangeAt Go.WideMaps Go.WideElems Go.RowKit Go.Joins Go.Deep
open Go.ChangeMaps (open_string shut_string)
set_option maxRecDepth 100000

theorem i64_of {n : Int} (h : (Lit.int .i64 n).wf = true) : I64 n := by
  simp only [Lit.wf, Bool.and_eq_true, decide_eq_true_eq] at h
  exact h
section
variable {H : Type} {enc : TypeId × Value → H} {P : Program} {w : World} {base : Nat} {spare : Nat → Bool} {held : Bool}
theorem trodAll_five {t0 t1 t2 t3 t4 : TypeId} {args : Array Value} {ds : List (DataW H)} {ps : List MemPlace} (h : DataW.TrodAll enc P w base spare held [t0, t1, t2, t3, t4] args.toList ds ps) :
    ∃ v0 v1 v2 v3 v4 d0 d1 d2 d3 d4 p0 p1 p2 p3 p4, args = #[v0, v1, v2, v3, v4] ∧ ds = [d0, d1, d2, d3, d4] ∧ ps = p0 ++ (p1 ++ (p2 ++ (p3 ++ p4))) ∧ DataW.Trod enc P w base spare held t0 v0 d0 p0 ∧ DataW.Trod enc P w base spare held t1 v1 d1 p1 ∧ DataW.Trod enc P w base spare held t2 v2 d2 p2 ∧ DataW.Trod enc P w base spare held t3 v3 d3 p3 ∧ DataW.Trod enc P w base spare held t4 v4 d4 p4 := by
  obtain ⟨v0, r0, d0, s0, p0, q0, hargs, rfl, rfl, h0, k0⟩ := trodAll_cons h
  obtain ⟨v1, r1, d1, s1, p1, q1, rfl, rfl, rfl, h1, k1⟩ := trodAll_cons k0
  obtain ⟨v2, r2, d2, s2, p2, q2, rfl, rfl, rfl, h2, k2⟩ := trodAll_cons k1
  obtain ⟨v3, r3, d3, s3, p3, q3, rfl, rfl, rfl, h3, k3⟩ := trodAll_cons k2
  obtain ⟨v4, r4, d4, s4, p4, q4, rfl, rfl, rfl, h4, k4⟩ := trodAll_cons k3
  obtain ⟨rfl, rfl, rfl⟩ := trodAll_nil k4
  exact ⟨v0, v1, v2, v3, v4, d0, d1, d2, d3, d4, p0, p1, p2, p3, p4, by cases args; simp_all, rfl, by simp, h0, h1, h2, h3, h4⟩
theorem trodAll_mk5 {t0 t1 t2 t3 t4 : TypeId} {v0 v1 v2 v3 v4 : Value} {d0 d1 d2 d3 d4 : DataW H} {p0 p1 p2 p3 p4 : List MemPlace} (h0 : DataW.Trod enc P w base spare held t0 v0 d0 p0) (h1 : DataW.Trod enc P w base spare held t1 v1 d1 p1) (h2 : DataW.Trod enc P w base spare held t2 v2 d2 p2) (h3 : DataW.Trod enc P w base spare held t3 v3 d3 p3) (h4 : DataW.Trod enc P w base spare held t4 v4 d4 p4) :
    DataW.TrodAll enc P w base spare held [t0, t1, t2, t3, t4] [v0, v1, v2, v3, v4] [d0, d1, d2, d3, d4] (p0 ++ (p1 ++ (p2 ++ (p3 ++ p4)))) := ⟨p0, _, h0, ⟨p1, _, h1, trodAll_mk3 h2 h3 h4, rfl⟩, rfl⟩
end
/-- A group that was handed in. -/
theorem config_of64 {H : Type} {enc : TypeId × Value → H} {W : World} {r : Reach} {b0 : Nat} {v : Value} {d : DataW H} {p : List MemPlace} (hv : Value.okWide Tryd.prog W r b0 23 v) (h : DataW.Trod enc Tryd.prog W 0 (fun _ => true) true 23 v d p) :
    ∃ N W' B L : Int, v = .agg #[.int .i64 N, .int .i64 W', .int .i64 B, .int .i64 L] ∧ I64 N ∧ I64 W' ∧ I64 B ∧ I64 L := by
  obtain ⟨c0, c1, c2, c3, y0, y1, y2, y3, n, rfl, _, _, h0, h1, h2, h3⟩ := open_agg4 Tryd.underlying23 (by kernel_rfl) Tryd.cellsC hv h
  obtain ⟨N, e0, _, z0⟩ := DataW.trod_int Tryd.underlying3 h0
  obtain ⟨W', e1, _, z1⟩ := DataW.trod_int Tryd.underlying3 h1
  obtain ⟨B, e2, _, z2⟩ := DataW.trod_int Tryd.underlying3 h2
  obtain ⟨L, e3, _, z3⟩ := DataW.trod_int Tryd.underlying3 h3
  simp at e0 e1 e2 e3
  subst e0 e1 e2 e3
  exact ⟨N, W', B, L, rfl, i64_of z0, i64_of z1, i64_of z2, i64_of z3⟩
/-- A frame that was handed in. -/
theorem frame_of64 {H : Type} {enc : TypeId × Value → H} {W : World} {r : Reach} {b0 : Nat} {v : Value} {d : DataW H} {p : List MemPlace} (hv : Value.okWide Tryd.prog W r b0 26 v) (h : DataW.Trod enc Tryd.prog W 0 (fun _ => true) true 26 v d p) :
    ∃ (K F O S Lw : Int) (ad : Option Addr) (len cap : Nat) (body : ByteArray) (vs : List Int), v = .agg #[.int .i64 K, .int .i64 F, .int .i64 O, .int .i64 S, .int .i64 Lw, .slice ad len cap, .string body] ∧ Ints W ad len vs ∧ I64 K ∧ I64 F ∧ I64 O ∧ I64 S ∧ I64 Lw ∧ (∀ x ∈ vs, I64 x) := by
  obtain ⟨c0, c1, c2, c3, c4, c5, c6, y0, y1, y2, y3, y4, y5, y6, n, rfl, hd, h0, h1, h2, h3, h4, h5, h6⟩ := open_agg7 Tryd.underlying26 (by kernel_rfl) Tryd.cellsF hv h
  obtain ⟨K, e0, q0, z0⟩ := DataW.trod_int Tryd.underlying3 h0
  obtain ⟨F, e1, q1, z1⟩ := DataW.trod_int Tryd.underlying3 h1
  obtain ⟨O, e2, q2, z2⟩ := DataW.trod_int Tryd.underlying3 h2
  obtain ⟨S, e3, q3, z3⟩ := DataW.trod_int Tryd.underlying3 h3
  obtain ⟨Lw, e4, q4, z4⟩ := DataW.trod_int Tryd.underlying3 h4
  obtain ⟨body, e6, q6, hb⟩ := DataW.trod_string Tryd.underlying9 h6
  simp at e0 e1 e2 e3 e4 e6
  subst e0 e1 e2 e3 e4 e6
  rcases open_ints Tryd.underlying24 Tryd.underlying3 Tryd.cellsI h5 with ⟨e5, _⟩ | ⟨a, len, cap, zs, e5, _, hl, hm, hz, hx, hcell, hwf⟩
  · simp at e5
    subst e5
    exact ⟨K, F, O, S, Lw, none, 0, 0, body, [], rfl, ints_nil W, i64_of z0, i64_of z1, i64_of z2, i64_of z3, i64_of z4, fun x hx => by cases hx⟩
  · simp at e5
    subst e5
    simp only [if_true] at hz
    refine ⟨K, F, O, S, Lw, some a, len, cap, body, zs.take len, rfl, ⟨by simp; omega, fun i hi => ?_⟩, i64_of z0, i64_of z1, i64_of z2, i64_of z3, i64_of z4, fun x hx => i64_of (hwf x (List.mem_of_mem_take hx))⟩
    obtain ⟨b, off, rfl, hc⟩ := ints_at hcell (by omega)
    have hci := hc i (by omega)
    refine ⟨b, off, rfl, lt_of_cell hci, ?_⟩
    rw [hci, List.getD_eq_getElem?_getD, List.getD_eq_getElem?_getD, List.getElem?_take, if_pos hi]
/-- The heap that the program's own start leaves meets the row's condition. -/
theorem rer_door_met (os : Os) (args : Array Value) : laidMetH Tryd.prog Rows.rereadRow.laid ((World.doorLaid Tryd.prog 168 os).forCall (fun _ _ => 0) ⟨#[], args, []⟩).memory :=
  laidMetH_of_parts3 (fuel := 8) (laidMet_of_run' 8 (by kernel_rfl) (by kernel_rfl)) (by kernel_rfl) (by kernel_rfl)

theorem rer_lifted (os : Os) (started : os.Started) (H : Type) (enc : TypeId × Value → H) :
    ReturnsInHanded {} Tryd.checked os 5 .any (fun w args => (Rows.rereadSpec.pre enc Tryd.prog Tryd.f5 [] false w args ∧ laidMetH Tryd.prog Rows.rereadRow.laid w) ∧ sizedMet enc Tryd.prog Tryd.f5 (OpenSpec.ofChange Rows.rereadSpec) false w args)
      (Rows.rereadSpec.post enc Tryd.prog Tryd.f5 false true false false) := by
  refine returnsInHanded_of_change_and (C := Tryd.checked) (X := fun w _ => laidMetH Tryd.prog Rows.rereadRow.laid w) (fun _ _ _ hh h => h.of_heap hh) Tryd.own started (by kernel_rfl) Tryd.func5
    (ChangeSpec.witness_shaped (enc := enc) (C := Tryd.checked) (os := os) (X := fun w _ => laidMetH Tryd.prog Rows.rereadRow.laid w) false (World.doorLaid Tryd.prog 168 os) #[.agg #[.int .i64 0, .int .i64 0, .int .i64 0, .int .i64 0], .agg #[.int .i64 0, .int .i64 0, .int .i64 0, .int .i64 0, .int .i64 0, .slice none 0 0, .string ByteArray.empty], .int .i64 0, .int .i64 0, .string ByteArray.empty] 8 rfl (World.shaped_of_RefB (by kernel_rfl) (by kernel_rfl)) (by kernel_rfl) (by kernel_rfl) (by kernel_rfl) (rer_door_met os _)) ?_
  intro W base args ds gs before hval0 hW _ hsz0 hL _
  have hval : ∀ (j : Nat) t v, Tryd.f5.params[j]? = some t → args[j]? = some v → Value.okWide Tryd.prog W .any base t v := hval0
  have hW' := hW
  obtain ⟨p, q, hA0, hV, rfl, hfz, hnd⟩ := hW
  have hA : DataW.TrodAll enc Tryd.prog W 0 (fun _ => true) true Tryd.f5.params.toList args.toList ds p := hA0
  rw [Tryd.params5] at hA hval
  obtain ⟨v0, v1, v2, v3, v4, d0, d1, d2, d3, d4, p0, p1, p2, p3, p4, rfl, rfl, rfl, h0, h1, h2, h3, h4⟩ := trodAll_five hA
  obtain ⟨rfl, rfl⟩ := trodVars_none hV
  have hL' : laidMetH Tryd.prog Rows.decodesRow.laid W := hL
  obtain ⟨⟨a0, a1, hsent⟩, hT⟩ := errT_of hL'
  obtain ⟨N, W', B, L, rfl, iN, iW, iB, iL⟩ := config_of64 (hval 0 23 v0 rfl rfl) h0
  obtain ⟨K, F, O, S, Lw, ad, len, cap, body, vs, rfl, hvec, iK, iF, iO, iS, iLw, ivs⟩ := frame_of64 (hval 1 26 v1 rfl rfl) h1
  have h2k := h2
  have h3k := h3
  have h4k := h4
  obtain ⟨i, rfl, rfl, rfl, wi⟩ := open_int Tryd.underlying3 (hval 2 3 v2 rfl rfl) h2
  obtain ⟨v, rfl, rfl, rfl, wv⟩ := open_int Tryd.underlying3 (hval 3 3 v3 rfl rfl) h3
  obtain ⟨s, rfl, rfl, rfl, hs⟩ := open_string Tryd.underlying9 (hval 4 9 v4 rfl rfl) h4
  refine (Reread_any a0 a1 N W' B L K F O S Lw ad len cap body vs i v s W hsent hT hvec iN iW iB iL iK iF iO iS iLw ivs (i64_of wi) (i64_of wv) hs).mono fun e W2 ⟨he, hb⟩ => ?_
  subst he
  have lt : ∀ x ∈ p0 ++ (p1 ++ ([] ++ ([] ++ []))), x.block < W.heap.size := fun x hx => by simpa using hW'.lt x (by simpa using hx)
  refine ⟨_, rfl, _, _, _, [], p0 ++ (p1 ++ ([] ++ ([] ++ []))), [], hW', trodAll_mk1 (shut_bool Tryd.underlying4 true),
    trodAll_mk5 (hb.trod Tryd.laidOut (by kernel_rfl) (of_decide_eq_true (by kernel_rfl)) h0 (fun x hx => lt x (by simp [hx]))) (hb.trod Tryd.laidOut (by kernel_rfl) (of_decide_eq_true (by kernel_rfl)) h1 (fun x hx => lt x (by simp [hx]))) (hb.trod Tryd.laidOut (by kernel_rfl) (of_decide_eq_true (by kernel_rfl)) h2k (fun x hx => by cases hx)) (hb.trod Tryd.laidOut (by kernel_rfl) (of_decide_eq_true (by kernel_rfl)) h3k (fun x hx => by cases hx)) (hb.trod Tryd.laidOut (by kernel_rfl) (of_decide_eq_true (by kernel_rfl)) h4k (fun x hx => by cases hx)), rfl, hb.frame _, fun h => by cases h⟩

theorem reread_holds : Rows.RereadSaid :=
  OpenClaim.holds_of_wide 5 Tryd.f5 rfl rfl rfl rfl rfl rfl rfl ⟨rfl, rfl, rfl, rfl, rfl⟩ rfl rfl rfl rfl rfl (by kernel_rfl) Tryd.func5 (by kernel_rfl)
    (of_decide_eq_true (by kernel_rfl)) (by unfold Func.isWrapper; rw [if_neg (of_decide_eq_false (by kernel_rfl))]; exact ⟨rfl, rfl⟩)
    (fun os started H enc _ => rer_lifted os started H enc)

theorem reread_card_holds : Rows.RereadCardSaid :=
  Claim7.holds_tied_plain_at .later [] [.handle, .sentinel, .sentinel, .sentinel, .sentinel, .sentinel, .sentinel, .sentinel, .sentinel] true Rows.rereadCard.stood.harness true
    reread_holds (fun _ h => by cases h) (by kernel_rfl) (fun _ h => by cases h) reread_row_tie rfl ⟨rfl, rfl⟩ (by kernel_rfl) rfl
    (fun f fn hf hfn => by
      obtain rfl : f = 5 := Option.some.inj ((show Tryd.prog.funcNamed Rows.rereadRow.func = some 5 by kernel_rfl).symm.trans hf) |>.symm
      obtain rfl : fn = Tryd.f5 := (Option.some.inj (Tryd.func5.symm.trans hfn)).symm
      exact ⟨by kernel_rfl, fun j t ht => by
        rw [Tryd.params5] at ht
        have hm : t ∈ [23, 26, 3, 3, 9] := by simpa using Array.mem_of_getElem? ht
        have hall : ([23, 26, 3, 3, 9].all fun u => !Tryd.prog.wantsStandIn u) = true := by kernel_rfl
        exact (show Tryd.prog.wantsStandIn t = false by simpa using List.all_eq_true.1 hall t hm)⟩)
    (by kernel_rfl)
#print axioms reread_card_holds
end Go.Proofs.YtabecbjfamphbaaDoor
