/-
  Texts that the proofs of this seat share, joined: Mh, Mi.
-/
import Derived.Test.YtabecbjfamphbaaGreatDoorB29
import Derived.Deep.RegionHeld3
/- The net's packets: Peek, Left. -/
namespace Go.Proofs.YtabecbjfamphbaaGreatDoor
open Go.RowKit Go.Stop Go.Extern

theorem prow_get {ps : List Pk} {k : Nat} {t : Pk} (h : ps[k]? = some t) : (prow ps)[k * 2]? = some (.int .i64 t.to) ∧ (prow ps)[k * 2 + 1]? = some (.string t.text) := by
  have hk := (List.getElem?_eq_some_iff.1 h).1
  have hd : ps = ps.take k ++ (t :: ps.drop (k + 1)) := by
    rw [← (List.getElem?_eq_some_iff.1 h).2]
    conv => lhs; rw [← List.take_append_drop k ps, List.drop_eq_getElem_cons hk]
  have hl : (prow (ps.take k)).length = k * 2 := by rw [prow_length, List.length_take]; omega
  have he : prow ps = prow (ps.take k) ++ (.int .i64 t.to :: .string t.text :: prow (ps.drop (k + 1))) := by
    conv => lhs; rw [hd, prow_append]
    rfl
  rw [he]
  constructor
  · rw [List.getElem?_append_right (by omega), hl, Nat.sub_self]
    rfl
  · rw [List.getElem?_append_right (by omega), hl, Nat.add_sub_cancel_left]
    rfl
theorem Way.get {w : World} {mb : Nat} {wa : Option Addr} {wcap : Nat} {bag : List Pk} (h : Way w mb wa wcap bag) {k : Nat} {t : Pk} (hk : bag[k]? = some t) : ∃ g, wa = some ⟨g, 0, none⟩ ∧ w.cell? ⟨g, k * 2, none⟩ = some (.int .i64 t.to) ∧ w.cell? ⟨g, k * 2 + 1, none⟩ = some (.string t.text) := by
  have hkl := (List.getElem?_eq_some_iff.1 hk).1
  obtain ⟨h0, h1⟩ := prow_get hk
  rcases h.own.2 with ⟨_, h0⟩ | ⟨g, cap', cur, he, _, hh, _⟩
  · omega
  · cases he
    refine ⟨g, rfl, ?_, ?_⟩
    · rw [World.ownsRow.cellAt h.own (k * 2) (by omega)]
      exact h0
    · rw [World.ownsRow.cellAt h.own (k * 2 + 1) (by omega)]
      exact h1
set_option maxRecDepth 100000 in
set_option maxHeartbeats 1000000 in
theorem meshPeek_yes (mb : Nat) (wa : Option Addr) (wcap : Nat) (bag : List Pk) (k : Nat) (t : Pk) (hk : bag[k]? = some t) (w : World) (h : Way w mb wa wcap bag) :
    Calls Tryz.prog 95 #[.pointer (some ⟨mb, 0, none⟩), .int .i64 k] w fun e w' => e = .returned (.tuple #[.agg #[.int .i64 t.to, .string t.text], .nilIface]) ∧ Below w.heap.size w w' := by
  have hkl := (List.getElem?_eq_some_iff.1 hk).1
  obtain ⟨g, rfl, k0, k1⟩ := h.get hk
  have c1 := h.c1
  have hki : (k : Int) < (bag.length : Int) := by omega
  have hal := below1 w (.cells #[.int .i64 0, .string ⟨#[]⟩] 109)
  have c1' := (hal.cell (p := ⟨mb, 1, none⟩) (lt_of_cell c1)).trans c1
  have k0' := (hal.cell (p := ⟨g, k * 2, none⟩) (lt_of_cell k0)).trans k0
  have k1' := (hal.cell (p := ⟨g, k * 2 + 1, none⟩) (lt_of_cell k1)).trans k1
  clear h hk c1 k0 k1 hal
  go_enter Tryz.func95, Tryz.ntmps95
  go_wp2_with fail
  refine bodyPost_ret (v := .tuple #[.agg #[.int .i64 t.to, .string t.text], .nilIface]) (by simp [results, Tryz.results95, go_sem]) rfl ⟨rfl, ?_⟩
  exact below1 _ _
set_option maxRecDepth 100000 in
set_option maxHeartbeats 1000000 in
theorem meshPeek_no (A : Nat → Addr) (base mb : Nat) (wa : Option Addr) (wcap : Nat) (bag : List Pk) (k : Int) (hk : isNode bag.length k = false) (w : World) (hw : Sl w A base) (h : Way w mb wa wcap bag) :
    Calls Tryz.prog 95 #[.pointer (some ⟨mb, 0, none⟩), .int .i64 k] w fun e w' => (∃ er, e = .returned (.tuple #[.agg #[.int .i64 0, .string ⟨#[]⟩], er]) ∧ IsErrA A er 1 ∧ ∃ t y, er = .iface t y) ∧ Below w.heap.size w w' := by
  have c1 := h.c1
  have e1 : w.cell? ⟨0, 0, none⟩ = some (.iface 298 (.pointer (some (A 1)))) := hw.s.c 1 (by decide) (by decide)
  have hk' := of_decide_eq_false hk
  have hal := below1 w (.cells #[.int .i64 0, .string ⟨#[]⟩] 109)
  have HAL : Hid _ := hal
  have c1' := (hal.cell (p := ⟨mb, 1, none⟩) (lt_of_cell c1)).trans c1
  have e1' := (hal.cell (p := ⟨0, 0, none⟩) (lt_of_cell e1)).trans e1
  have HI : Hid (∀ s, IsErrA A (.iface 208 (.agg #[.string s, .iface 298 (.pointer (some (A 1)))])) 1) := fun s => ⟨Or.inr (Or.inl ⟨by decide, by decide, s, rfl⟩)⟩
  have hz : 0 < w.heap.size := lt_of_cell e1
  have hz1 : w.heap.size ≠ 0 := by omega
  have hz2 : 0 ≠ w.heap.size := by omega
  clear h hw hk hal c1 e1
  by_cases h0 : k < 0
  · have hd : decide (k < 0) = true := decide_eq_true h0
    clear hk'
    go_enter Tryz.func95, Tryz.ntmps95
    go_wp2_with fail
    go_region
    all_goals
      go_wp2_with fail
      refine bodyPost_ret (v := .tuple #[.agg #[.int .i64 0, .string ⟨#[]⟩], _]) (by simp [results, Tryz.results95, go_sem]; rfl) rfl ⟨⟨_, rfl, HI.out _, _, _, rfl⟩, HAL.out.drew⟩
  · obtain ⟨q, rfl⟩ : ∃ q : Nat, k = q := ⟨k.toNat, by omega⟩
    have hq : ¬ ((q : Int) < 0) := h0
    have hq2 : (bag.length : Int) ≤ (q : Int) := by omega
    clear hk'
    go_enter Tryz.func95, Tryz.ntmps95
    go_wp2_with fail
    go_region
    all_goals
      go_wp2_with fail
      refine bodyPost_ret (v := .tuple #[.agg #[.int .i64 0, .string ⟨#[]⟩], _]) (by simp [results, Tryz.results95, go_sem]; rfl) rfl ⟨⟨_, rfl, HI.out _, _, _, rfl⟩, HAL.out.drew⟩
set_option maxRecDepth 100000 in
set_option maxHeartbeats 1000000 in
theorem meshLeft_any (mb : Nat) (wa : Option Addr) (wcap : Nat) (bag : List Pk) (w : World) (h : Way w mb wa wcap bag) :
    Calls Tryz.prog 80 #[.pointer (some ⟨mb, 0, none⟩)] w fun e w' => e = .returned (.int .i64 (bag.length : Int)) ∧ w' = w := by
  have c1 := h.c1
  clear h
  go_enter Tryz.func80, Tryz.ntmps80
  go_wp2_with fail
  go_ret
  exact ⟨rfl, rfl⟩
end Go.Proofs.YtabecbjfamphbaaGreatDoor

/- The net's packets: Drop, Copy, Send, Deliver. -/
namespace Go.Proofs.YtabecbjfamphbaaGreatDoor
open Go.RowKit Go.Stop Go.Extern

theorem pks_one (w : World) (t : Pk) : Pks (w.alloc (.cells #[.int .i64 t.to, .string t.text] 109)) w.heap.size (.slice (some ⟨w.heap.size, 0, none⟩) 1 1) [t] :=
  ⟨rfl, Or.inr ⟨w.heap.size, 1, _, rfl, Nat.le_refl _, heap_alloc_new _ _, Nat.le_refl _, by decide, rfl, rfl⟩⟩
set_option maxRecDepth 100000 in
set_option maxHeartbeats 1000000 in
theorem meshDrop_no (A : Nat → Addr) (base mb : Nat) (g : Gr) (x : MNet) (F : Nat → Prop) (k : Int) (hk : isNode x.bag.length k = false) (w : World) (hw : Sl w A base) (h : MeshAt w mb g x F) :
    Calls Tryz.prog 82 #[.pointer (some ⟨mb, 0, none⟩), .int .i64 k] w fun e w' => (∃ er, e = .returned er ∧ IsErrA A er 1) ∧ Below w.heap.size w w' := by
  obtain ⟨M, hM, hFt⟩ := h.how
  have HP : Hid _ := fun w1 (hb : Below w.heap.size w w1) => meshPeek_no A base mb M.wa M.wcap x.bag k hk w1 (hw.low hb) (hM.low hb).way
  clear h hw hFt hM
  go_enter Tryz.func82, Tryz.ntmps82
  go_wp2_with fail
  refine (show Calls _ _ _ _ _ from HP.out _ (Below.refl _ _)).mono ?_
  rintro e w1 ⟨⟨er, rfl, her, t, y, rfl⟩, hb1⟩
  have HE : Hid _ := her
  have HB1 : Hid _ := hb1
  clear hb1 her HP
  go_wp2_with fail
  go_ret
  exact ⟨⟨_, rfl, HE.out⟩, bthen HB1.out (below1 _ _)⟩
set_option maxRecDepth 100000 in
set_option maxHeartbeats 1000000 in
theorem meshCopy_no (A : Nat → Addr) (base mb : Nat) (g : Gr) (x : MNet) (F : Nat → Prop) (k : Int) (hk : isNode x.bag.length k = false) (w : World) (hw : Sl w A base) (h : MeshAt w mb g x F) :
    Calls Tryz.prog 97 #[.pointer (some ⟨mb, 0, none⟩), .int .i64 k] w fun e w' => (∃ er, e = .returned er ∧ IsErrA A er 1) ∧ Below w.heap.size w w' := by
  obtain ⟨M, hM, hFt⟩ := h.how
  have HP : Hid _ := fun w1 (hb : Below w.heap.size w w1) => meshPeek_no A base mb M.wa M.wcap x.bag k hk w1 (hw.low hb) (hM.low hb).way
  clear h hw hFt hM
  go_enter Tryz.func97, Tryz.ntmps97
  go_wp2_with fail
  refine (show Calls _ _ _ _ _ from HP.out _ (Below.refl _ _)).mono ?_
  rintro e w1 ⟨⟨er, rfl, her, t, y, rfl⟩, hb1⟩
  have HE : Hid _ := her
  have HB1 : Hid _ := hb1
  clear hb1 her HP
  go_wp2_with fail
  go_ret
  exact ⟨⟨_, rfl, HE.out⟩, bthen HB1.out (below1 _ _)⟩
set_option maxRecDepth 100000 in
set_option maxHeartbeats 1000000 in
theorem meshDeliver_no (A : Nat → Addr) (base mb : Nat) (g : Gr) (x : MNet) (F : Nat → Prop) (k : Int) (hk : isNode x.bag.length k = false) (w : World) (hw : Sl w A base) (h : MeshAt w mb g x F) :
    Calls Tryz.prog 78 #[.pointer (some ⟨mb, 0, none⟩), .int .i64 k] w fun e w' => (∃ er, e = .returned er ∧ IsErrA A er 1) ∧ Below w.heap.size w w' := by
  obtain ⟨M, hM, hFt⟩ := h.how
  have HP : Hid _ := fun w1 (hb : Below w.heap.size w w1) => meshPeek_no A base mb M.wa M.wcap x.bag k hk w1 (hw.low hb) (hM.low hb).way
  clear h hw hFt hM
  go_enter Tryz.func78, Tryz.ntmps78
  go_wp2_with fail
  refine (show Calls _ _ _ _ _ from HP.out _ (Below.refl _ _)).mono ?_
  rintro e w1 ⟨⟨er, rfl, her, t, y, rfl⟩, hb1⟩
  have HE : Hid _ := her
  have HB1 : Hid _ := hb1
  clear hb1 her HP
  go_wp2_with fail
  go_ret
  exact ⟨⟨_, rfl, HE.out⟩, bthen HB1.out (below1 _ _)⟩
set_option maxRecDepth 100000 in
set_option maxHeartbeats 1000000 in
theorem meshDrop_yes (mb : Nat) (g : Gr) (x : MNet) (F : Nat → Prop) (k : Nat) (t : Pk) (hk : x.bag[k]? = some t) (hx : x.Ok g) (w : World) (h : MeshAt w mb g x F) :
    Calls Tryz.prog 82 #[.pointer (some ⟨mb, 0, none⟩), .int .i64 k] w fun e w' => e = .returned .nilIface ∧ MDid w w' mb g F { x with bag := x.bag.eraseIdx k } := by
  have hkl := (List.getElem?_eq_some_iff.1 hk).1
  have hln := hx.len
  obtain ⟨M, hM, hFt⟩ := h.how
  have HM : Hid _ := hM
  have HFt : Hid _ := hFt
  have HP : Hid _ := fun w1 (hb : Below w.heap.size w w1) => meshPeek_yes mb M.wa M.wcap x.bag k t hk w1 (hM.low hb).way
  clear h hFt hM hk hx
  go_enter Tryz.func82, Tryz.ntmps82
  go_wp2_with fail
  refine (show Calls _ _ _ _ _ from HP.out _ (Below.refl _ _)).mono ?_
  rintro e w1 ⟨rfl, hb1⟩
  have HT1 : Hid _ := (MAt.begin (F := F) HM.out (fun k hk => (HFt.out k).2 hk)).low hb1
  have HTX : Hid _ := HT1.out.low (below1 w1 (.cells #[.int .i64 t.to, .string t.text] 109))
  clear hb1 HP
  go_wp2_with fail
  refine (remove_any mb M.wa M.wcap x.bag k hkl (by omega) _ HTX.out.msh.way).mono ?_
  rintro e w2 ⟨rfl, hl⟩
  obtain ⟨M2, hT2, _⟩ := HTX.out.laid hl
  have HT2 : Hid _ := hT2
  clear hl hT2
  go_wp2_with fail
  go_ret
  exact ⟨rfl, HT2.out.done⟩
set_option maxRecDepth 100000 in
set_option maxHeartbeats 1000000 in
theorem meshCopy_yes (mb : Nat) (g : Gr) (x : MNet) (F : Nat → Prop) (k : Nat) (t : Pk) (hk : x.bag[k]? = some t) (hx : x.Ok g) (w : World) (h : MeshAt w mb g x F) :
    Calls Tryz.prog 97 #[.pointer (some ⟨mb, 0, none⟩), .int .i64 k] w fun e w' => e = .returned .nilIface ∧ MDid w w' mb g F { x with bag := x.bag ++ [t] } := by
  have hkl := (List.getElem?_eq_some_iff.1 hk).1
  have hln := hx.len
  obtain ⟨M, hM, hFt⟩ := h.how
  have HM : Hid _ := hM
  have HFt : Hid _ := hFt
  have HP : Hid _ := fun w1 (hb : Below w.heap.size w w1) => meshPeek_yes mb M.wa M.wcap x.bag k t hk w1 (hM.low hb).way
  clear h hFt hM hk hx
  go_enter Tryz.func97, Tryz.ntmps97
  go_wp2_with fail
  refine (show Calls _ _ _ _ _ from HP.out _ (Below.refl _ _)).mono ?_
  rintro e w1 ⟨rfl, hb1⟩
  have HT1 : Hid _ := (MAt.begin (F := F) HM.out (fun k hk => (HFt.out k).2 hk)).low hb1
  have HTX : Hid _ := HT1.out.low (bthen (below1 w1 (.cells #[.int .i64 t.to, .string t.text] 109)) (below1 _ (.cells #[.int .i64 t.to, .string t.text] 109)))
  have HPX : Hid (Pks ((w1.alloc (.cells #[.int .i64 t.to, .string t.text] 109)).alloc (.cells #[.int .i64 t.to, .string t.text] 109)) (w1.heap.size + 1) (.slice (some ⟨w1.heap.size + 1, 0, none⟩) 1 1) [t]) := by
    have h := pks_one (w1.alloc (.cells #[.int .i64 t.to, .string t.text] 109)) t
    rw [show (w1.alloc (.cells #[.int .i64 t.to, .string t.text] 109)).heap.size = w1.heap.size + 1 by simp] at h
    exact h
  have HMw : Hid (∀ k, onB M.wa k → k < w1.heap.size) := fun k hk => HT1.out.msh.way.lt hk
  clear hb1 HP
  go_wp2_with fail
  refine (lay_any mb M.wa M.wcap x.bag [t] _ _ _ HTX.out.msh.way HPX.out (fun k hk hc => by
    cases hk
    have h2 : w1.heap.size + 1 < w1.heap.size := HMw.out _ hc
    omega) (by simp; omega)).mono ?_
  rintro e w2 ⟨rfl, hl⟩
  obtain ⟨M2, hT2, _⟩ := HTX.out.laid hl
  have HT2 : Hid _ := hT2
  clear hl hT2
  go_wp2_with fail
  go_ret
  exact ⟨rfl, HT2.out.done⟩
set_option maxRecDepth 100000 in
set_option maxHeartbeats 1000000 in
theorem meshSend_no (A : Nat → Addr) (base mb : Nat) (g : Gr) (x : MNet) (F : Nat → Prop) (p : Int) (s : ByteArray) (hp : isNode g.n p = false) (w : World) (hw : Sl w A base) (h : MeshAt w mb g x F) :
    Calls Tryz.prog 143 #[.pointer (some ⟨mb, 0, none⟩), .int .i64 p, .string s] w fun e w' => (∃ er, e = .returned er ∧ IsErrA A er 1) ∧ Below w.heap.size w w' := by
  obtain ⟨M, hM, hFt⟩ := h.how
  have HK : Hid (viewK g.n p = 1) := by
    show viewK g.n p = 1
    unfold viewK
    rw [show decide (0 ≤ p ∧ p < (g.n : Int)) = false from hp]
    rfl
  have HMe : Hid _ := member_any A base mb g x M p w hw hM
  clear h hw hFt hM
  go_enter Tryz.func143, Tryz.ntmps143
  go_wp2_with fail
  refine (show Calls _ _ _ _ _ from HMe.out).mono ?_
  rintro e w1 ⟨⟨v1, er1, rfl, her, _, hno⟩, hb1⟩
  obtain ⟨rfl, t, y, rfl⟩ := hno hp
  rw [HK.out] at her
  have HE : Hid _ := her
  have HB1 : Hid _ := hb1
  clear hno hb1 her HMe
  go_wp2_with fail
  go_ret
  exact ⟨⟨_, rfl, HE.out⟩, HB1.out⟩
set_option maxRecDepth 100000 in
set_option maxHeartbeats 1000000 in
theorem meshSend_long (A : Nat → Addr) (base mb : Nat) (g : Gr) (x : MNet) (F : Nat → Prop) (p : Nat) (s : ByteArray) (hp : p < g.n) (hs : 100 < s.size) (w : World) (hw : Sl w A base) (h : MeshAt w mb g x F) :
    Calls Tryz.prog 143 #[.pointer (some ⟨mb, 0, none⟩), .int .i64 p, .string s] w fun e w' => (∃ er, e = .returned er ∧ IsErrA A er 2) ∧ Below w.heap.size w w' := by
  obtain ⟨M, hM, hFt⟩ := h.how
  have HMe : Hid _ := member_any A base mb g x M p w hw hM
  have hin : isNode g.n p = true := decide_eq_true ⟨by omega, by omega⟩
  have HC : Hid (∀ w1, Below w.heap.size w w1 → w1.cell? ⟨1, 0, none⟩ = some (.iface 298 (.pointer (some (A 2))))) := fun w1 hb => (hw.low hb).s.c 2 (by decide) (by decide)
  have hs' : (100 : Int) < (s.size : Int) := by omega
  clear h hw hFt hM
  go_enter Tryz.func143, Tryz.ntmps143
  go_wp2_with fail
  refine (show Calls _ _ _ _ _ from HMe.out).mono ?_
  rintro e w1 ⟨⟨v1, er1, rfl, _, hyes, _⟩, hb1⟩
  obtain ⟨rfl, rfl⟩ := hyes hin
  have HB1 : Hid _ := hb1
  have e2 := HC.out w1 hb1
  clear hyes hb1 HMe hin
  go_wp2_with fail
  go_ret
  exact ⟨⟨_, rfl, ⟨Or.inr (Or.inl ⟨by decide, by decide, _, rfl⟩)⟩⟩, HB1.out⟩
set_option maxRecDepth 100000 in
set_option maxHeartbeats 1000000 in
theorem meshSend_yes (A : Nat → Addr) (base mb : Nat) (g : Gr) (x : MNet) (F : Nat → Prop) (p : Nat) (s : ByteArray) (hp : p < g.n) (hs : s.size ≤ 100) (hx : x.Ok g) (w : World) (hw : Sl w A base) (h : MeshAt w mb g x F) :
    Calls Tryz.prog 143 #[.pointer (some ⟨mb, 0, none⟩), .int .i64 p, .string s] w fun e w' => e = .returned .nilIface ∧ MDid w w' mb g F { x with bag := x.bag ++ [⟨p, s⟩] } := by
  obtain ⟨M, hM, hFt⟩ := h.how
  have HM : Hid _ := hM
  have HFt : Hid _ := hFt
  have HMe : Hid _ := member_any A base mb g x M p w hw hM
  have hin : isNode g.n p = true := decide_eq_true ⟨by omega, by omega⟩
  have hs' : ¬ (100 : Int) < (s.size : Int) := by omega
  have hln := hx.len
  clear h hw hFt hM hx
  go_enter Tryz.func143, Tryz.ntmps143
  go_wp2_with fail
  refine (show Calls _ _ _ _ _ from HMe.out).mono ?_
  rintro e w1 ⟨⟨v1, er1, rfl, _, hyes, _⟩, hb1⟩
  obtain ⟨rfl, rfl⟩ := hyes hin
  have HB1 : Hid _ := hb1
  clear hyes hb1 HMe hin
  go_wp2_with fail
  refine (clone_any s w1 (by omega)).mono ?_
  rintro e w2 ⟨rfl, hb2⟩
  have HT2 : Hid _ := (MAt.begin (F := F) HM.out (fun k hk => (HFt.out k).2 hk)).low (bthen HB1.out hb2)
  have HTX : Hid _ := HT2.out.low (below1 w2 (.cells #[.int .i64 (p : Int), .string s] 109))
  have HPX : Hid _ := pks_one w2 ⟨(p : Int), s⟩
  have HMw : Hid (∀ k, onB M.wa k → k < w2.heap.size) := fun k hk => HT2.out.msh.way.lt hk
  clear hb2
  go_wp2_with fail
  refine (lay_any mb M.wa M.wcap x.bag [⟨(p : Int), s⟩] _ _ _ HTX.out.msh.way HPX.out (fun k hk hc => by
    cases hk
    have h2 : w2.heap.size < w2.heap.size := HMw.out _ hc
    omega) (by simp; omega)).mono ?_
  rintro e w3 ⟨rfl, hl⟩
  obtain ⟨M3, hT3, _⟩ := HTX.out.laid hl
  have HT3 : Hid _ := hT3
  clear hl hT3
  go_wp2_with fail
  go_ret
  exact ⟨rfl, HT3.out.done⟩
theorem isErr_nil {A : Nat → Addr} {e : Value} {k : Nat} (h : IsErrA A e k) (h0 : k = 0) : e = .nilIface := by
  rcases h.how with ⟨h, _⟩ | ⟨h, _⟩ | ⟨h, _⟩
  · exact h
  · omega
  · omega
theorem isErr_some {A : Nat → Addr} {e : Value} {k : Nat} (h : IsErrA A e k) (h0 : k ≠ 0) : ∃ t x, e = .iface t x := by
  rcases h.how with ⟨_, h⟩ | ⟨_, _, _, h⟩ | ⟨_, _, _, _, h⟩
  · exact absurd h h0
  · exact ⟨_, _, h⟩
  · exact ⟨_, _, h⟩
theorem hear_few (g : Gr) (p : Nat) (s : NS) (t : ByteArray) : (s.hear g p t).ps.length ≤ g.n := by
  unfold NS.hear
  split
  · exact Nat.zero_le _
  · split
    · exact Nat.zero_le _
    · split
      · split
        · exact Nat.zero_le _
        · split
          · exact passL_length _ _ _ _ _
          · exact Nat.zero_le _
      · exact Nat.zero_le _
/-- The net when packet k is delivered. -/
def MNet.deliver (g : Gr) (x : MNet) (k : Nat) (t : Pk) : MNet :=
  let r := (x.nd t.to.toNat).hear g t.to.toNat t.text
  let y : MNet := { x.put t.to.toNat r.s with bag := x.bag.eraseIdx k ++ r.ps }
  if r.k = 0 then y else y.refuse t.to.toNat
set_option maxRecDepth 100000 in
set_option maxHeartbeats 1000000 in
theorem meshDeliver_yes (A : Nat → Addr) (base mb : Nat) (g : Gr) (x : MNet) (F : Nat → Prop) (k : Nat) (t : Pk) (hg : g.Ok) (hk : x.bag[k]? = some t) (hx : x.Ok g) (w : World) (hw : Sl w A base) (hF : ∀ k, F k → base ≤ k) (h : MeshAt w mb g x F) :
    Calls Tryz.prog 78 #[.pointer (some ⟨mb, 0, none⟩), .int .i64 k] w fun e w' => ∃ er, e = .returned er ∧ IsErrA A er ((x.nd t.to.toNat).hear g t.to.toNat t.text).k ∧ MDid w w' mb g F (x.deliver g k t) := by
  have hkl := (List.getElem?_eq_some_iff.1 hk).1
  have hln := hx.len
  obtain ⟨⟨p, hto, hp⟩, htx⟩ := hx.bag t (List.mem_of_getElem? hk)
  obtain ⟨to, text⟩ := t
  simp only at hto htx
  subst hto
  obtain ⟨M, hM, hFt⟩ := h.how
  have HM : Hid _ := hM
  have HFt : Hid _ := hFt
  have HP : Hid _ := fun w1 (hb : Below w.heap.size w w1) => meshPeek_yes mb M.wa M.wcap x.bag k ⟨(p : Int), text⟩ hk w1 (hM.low hb).way
  have HXE : Hid (x.deliver g k ⟨(p : Int), text⟩ = if ((x.nd p).hear g p text).k = 0 then { x.put p ((x.nd p).hear g p text).s with bag := x.bag.eraseIdx k ++ ((x.nd p).hear g p text).ps } else MNet.refuse { x.put p ((x.nd p).hear g p text).s with bag := x.bag.eraseIdx k ++ ((x.nd p).hear g p text).ps } p) := rfl
  have HRp : Hid (((x.nd p).hear g p text).ps.length ≤ 8) := Nat.le_trans (hear_few _ _ _ _) hg.n.2
  have HX : Hid _ := hx
  have HW : Hid _ := hw
  have HF : Hid _ := hF
  have HHe : Hid (∀ w1 b F1, Sl w1 A base → (∀ k, F1 k → base ≤ k) → NodeAt w1 b g p (x.nd p) F1 → Calls Tryz.prog 96 #[.pointer (some ⟨b, 0, none⟩), .string text] w1 _) := fun w1 b F1 h1 h2 h3 => nodeHear A base b g p (x.nd p) F1 text hg hp (hx.nd p hp) (by unfold maxLen; omega) w1 h1 h2 h3
  simp only [Int.toNat_natCast]
  generalize x.deliver g k ⟨(p : Int), text⟩ = x' at *
  generalize (x.nd p).hear g p text = R at *
  clear h hFt hM hk hx hw hF
  go_enter Tryz.func78, Tryz.ntmps78
  go_wp2_with fail
  refine (show Calls _ _ _ _ _ from HP.out _ (Below.refl _ _)).mono ?_
  rintro e w1 ⟨rfl, hb1⟩
  have HT1 : Hid _ := (MAt.begin (F := F) HM.out (fun k hk => (HFt.out k).2 hk)).low hb1
  have HTX : Hid _ := HT1.out.low (below1 w1 (.cells #[.int .i64 (p : Int), .string text] 109))
  have HBox : Hid ((w1.alloc (.cells #[.int .i64 (p : Int), .string text] 109)).cell? ⟨w1.heap.size, 0, none⟩ = some (.int .i64 (p : Int)) ∧ (w1.alloc (.cells #[.int .i64 (p : Int), .string text] 109)).cell? ⟨w1.heap.size, 1, none⟩ = some (.string text)) := by
    have e : ∀ i, (w1.alloc (.cells #[.int .i64 (p : Int), .string text] 109)).cell? ⟨w1.heap.size, i, none⟩ = #[Value.int .i64 (p : Int), .string text][i]? := fun i => cell_of_row _ _ i _ _ (0, 0) (heap_alloc_new _ _)
    exact ⟨e 0, e 1⟩
  have HLt : Hid (∀ k, M.foot mb g.n k → k < w1.heap.size) := fun k hk => HT1.out.msh.lt hk
  clear hb1 HP
  go_wp2_with fail
  refine (remove_any mb M.wa M.wcap x.bag k hkl (by omega) _ HTX.out.msh.way).mono ?_
  rintro e w2 ⟨rfl, hl⟩
  obtain ⟨M2, hT2, eg2, ec2, en2, eF2⟩ := HTX.out.laid hl
  have HT2 : Hid _ := hT2
  have hz : ¬ (w1.heap.size = mb ∨ onB M.wa w1.heap.size) := fun hc => by
    have := HLt.out w1.heap.size (by
      rcases hc with h | h
      · exact Or.inl h
      · exact Or.inr (Or.inr (Or.inl h)))
    omega
  have b0 := hl.rest.cell HBox.out.1 hz
  have b1 := hl.rest.cell HBox.out.2 hz
  have c0 := hT2.msh.c0
  obtain ⟨m0, m1⟩ := hT2.msh.mem p hp
  have hpi : (p : Int) < (g.n : Int) := by omega
  have HHy : Hid _ := fun y (hy : Below w2.heap.size w2 y) => HHe.out y (M2.nb p) (M2.Fp p) ((HW.out.alike hT2.rest (fun k hk hc => by have := HF.out k hc; omega)).low hy) (fun j hj => by
    rcases hT2.own j (Or.inr (Or.inr (Or.inr ⟨p, hp, hj⟩))) with h1 | h1
    · exact HF.out j h1
    · have h2 := HF.out mb ((HFt.out mb).2 (Or.inl rfl))
      have h3 := HM.out.lt (Or.inl rfl)
      omega) ((hT2.msh.low hy).node p hp)
  have HOff : Hid (¬ M2.Fp p M2.gm ∧ ¬ M2.Fp p w1.heap.size) := ⟨fun hc => (hT2.msh.sep p hp _ hc).2.1 rfl, fun hc => by
    rw [eF2] at hc
    have := HLt.out _ (Or.inr (Or.inr (Or.inr ⟨p, hp, hc⟩)))
    omega⟩
  have hfz := frozen_ty hT2.msh.mty (p * 2 + 1)
  clear hl hT2 eg2 ec2 en2 eF2 hz
  go_wp2_with fail
  go_quiet (fail)
  have HBY : Hid (Below w2.heap.size w2 (w2.drewN nq)) := below_drewN (Below.refl _ _) nq
  have HTY : Hid _ := HT2.out.low HBY.out
  have n0 : (w2.drewN nq).cell? ⟨M2.gm, p * 2, none⟩ = some (.pointer (some ⟨M2.nb p, 0, none⟩)) := m0
  have n1 : (w2.drewN nq).cell? ⟨M2.gm, p * 2 + 1, none⟩ = some (.int .i64 (x.ref p)) := m1
  have nb : (w2.drewN nq).cell? ⟨w1.heap.size, 1, none⟩ = some (.string text) := b1
  have nf : (w2.drewN nq).frozen? ⟨M2.gm, p * 2 + 1, none⟩ = false := hfz
  clear m0 m1 b0 b1 c0 hfz
  generalize w2.drewN nq = Y at *
  have hgz : M2.gm < Y.heap.size := lt_of_cell n0
  have href := HX.out.ref p hp
  have hwr : IntKind.i64.wrap (x.ref p + 1) = x.ref p + 1 := by rw [IntKind.wrap_i64]; omega
  have HRP : Hid (R.ps.length ≤ 8) := HRp.out
  by_cases hK : R.k = 0
  · go_wp2_with fail
    go_region_held3 (fun y => y.cell? ⟨M2.gm, p * 2, none⟩ = some (.pointer (some ⟨M2.nb p, 0, none⟩)) ∧ y.cell? ⟨w1.heap.size, 1, none⟩ = some (.string text))
      (first | (exact ⟨n0, nb⟩) | (exact ⟨HD.out.rest.cell (show Y.drew.cell? _ = _ from n0) HOff.out.1, HD.out.rest.cell (show Y.drew.cell? _ = _ from nb) HOff.out.2⟩) | go_keep)
      (first | (go_at_call 96; refine (show Calls _ _ _ _ _ from HHy.out _ HBY.out.drew).mono ?_; rintro e w3 ⟨v, er, rfl, her, hd⟩; have HD : Hid _ := hd; have hni := isErr_nil her hK; subst hni; have HE : Hid _ := her; obtain ⟨av, cv, hsh⟩ := rowShaped hd.pks.own; subst hsh; clear her hd))
    have HTD : Hid _ := HTY.out.low (Below.refl Y.heap.size Y).drew
    obtain ⟨M3, hT3, eg3, ew3, ec3, en3⟩ := HTD.out.noded hp HD.out
    have HT3 : Hid _ := hT3
    have HNe : Hid (∀ j, (Value.slice av R.ps.length cv).ownBlock = some j → ¬ onB M3.wa j) := fun j hj hc => by
      have h1 := HD.out.pks.block j hj
      rw [ew3] at hc
      have h2 := HTD.out.msh.way.lt hc
      omega
    have HEr : Hid ((x.bag.eraseIdx k).length ≤ x.bag.length) := List.length_eraseIdx_le _ _
    rename_i hHeld
    clear hHeld hT3 eg3 ew3 ec3 en3 n0 n1 nb nf
    go_wp2_with fail
    refine (lay_any mb M3.wa M3.wcap (x.bag.eraseIdx k) R.ps _ Y.drew.heap.size w3 HT3.out.msh.way HD.out.pks HNe.out (by have := HRP.out; have := HEr.out; omega)).mono ?_
    rintro e w4 ⟨rfl, hl⟩
    obtain ⟨M4, hT4, _⟩ := HT3.out.laid hl
    have HT4 : Hid _ := hT4
    clear hl hT4
    go_wp2_with fail
    go_ret
    refine ⟨_, rfl, HE.out, ?_⟩
    rw [HXE.out, if_pos hK]
    exact HT4.out.done
  · go_wp2_with fail
    go_region_held3 (fun y => y.cell? ⟨M2.gm, p * 2, none⟩ = some (.pointer (some ⟨M2.nb p, 0, none⟩)) ∧ y.cell? ⟨w1.heap.size, 1, none⟩ = some (.string text))
      (first | (exact ⟨n0, nb⟩) | (exact ⟨HD.out.rest.cell (show Y.drew.cell? _ = _ from n0) HOff.out.1, HD.out.rest.cell (show Y.drew.cell? _ = _ from nb) HOff.out.2⟩) | go_keep)
      (first | (go_at_call 96; refine (show Calls _ _ _ _ _ from HHy.out _ HBY.out.drew).mono ?_; rintro e w3 ⟨v, er, rfl, her, hd⟩; have HD : Hid _ := hd; obtain ⟨ety, ev, hni⟩ := isErr_some her hK; subst hni; have HE : Hid _ := her; obtain ⟨av, cv, hsh⟩ := rowShaped hd.pks.own; subst hsh; clear her hd))
    have HTD : Hid _ := HTY.out.low (Below.refl Y.heap.size Y).drew
    obtain ⟨M3, hT3, eg3, ew3, ec3, en3⟩ := HTD.out.noded hp HD.out
    have HT3 : Hid _ := hT3
    have HNe : Hid (∀ j, (Value.slice av R.ps.length cv).ownBlock = some j → ¬ onB M3.wa j) := fun j hj hc => by
      have h1 := HD.out.pks.block j hj
      rw [ew3] at hc
      have h2 := HTD.out.msh.way.lt hc
      omega
    have HEr : Hid ((x.bag.eraseIdx k).length ≤ x.bag.length) := List.length_eraseIdx_le _ _
    have o1 : w3.cell? ⟨M2.gm, p * 2 + 1, none⟩ = some (.int .i64 (x.ref p)) := HD.out.rest.cell (show Y.drew.cell? _ = _ from n1) HOff.out.1
    have of : w3.frozen? ⟨M2.gm, p * 2 + 1, none⟩ = false := HD.out.rest.frozen (show M2.gm < Y.drew.heap.size from hgz) (show Y.drew.frozen? _ = _ from nf) HOff.out.1
    have HTR : Hid _ := HT3.out.refused hp
    rw [eg3] at HTR
    have HPR : Hid (Pks (w3.setCell ⟨M2.gm, p * 2 + 1, none⟩ (.int .i64 (x.ref p + 1))) Y.drew.heap.size (.slice av R.ps.length cv) R.ps) := HD.out.pks.alike (Alike.setCell _ _ _) (fun j h1 _ e => by
      have e' : j = M2.gm := e
      have : Y.drew.heap.size = Y.heap.size := rfl
      omega)
    rename_i hHeld
    clear hHeld hT3 eg3 ew3 ec3 en3 n0 n1 nb nf
    go_wp2_with fail
    refine (lay_any mb M3.wa M3.wcap (x.bag.eraseIdx k) R.ps _ Y.drew.heap.size _ HTR.out.msh.way HPR.out HNe.out (by have := HRP.out; have := HEr.out; omega)).mono ?_
    rintro e w4 ⟨rfl, hl⟩
    obtain ⟨M4, hT4, _⟩ := HTR.out.laid hl
    have HT4 : Hid _ := hT4
    clear hl hT4
    go_wp2_with fail
    go_ret
    refine ⟨_, rfl, HE.out, ?_⟩
    rw [HXE.out, if_neg hK]
    exact HT4.out.done
end Go.Proofs.YtabecbjfamphbaaGreatDoor
