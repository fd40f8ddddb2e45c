/-
  Texts that the proof needs, joined: Vm, Vl, Vn, Vo, Vr, Vp.
-/
import Derived.Test.YtabecbjfamphbaaGreatDoorT36
import Derived.Test.YtabecbjfamphbaaGreatDoorT37
/- The law's world: a call of a node, of whatever kind. -/
namespace Go.Proofs.YtabecbjfamphbaaGreatDoor
open Go.RowKit Go.Stop Go.Extern

theorem knot_any (A : Nat → Addr) (base : Nat) (R : Nat → Prop) (wb t u m : Nat) (ks : List Kn) (O : Nat → Prop) (F : Nat → Nat → Prop) (i : Nat) (k : Kn) (K : Int) (on oa : Int) (ox : ByteArray) (N W B L f0 f1 f2 f3 f4 : Int) (fa : Option Addr) (fl fc : Nat) (fs : ByteArray) (hK : 11 ≤ K ∧ K ≤ 18) (hi : ks[i]? = some k) (ht : t ≤ 240000) (hu : u ≤ 240000) (hm : m ≤ 100000000) (ha : I64 oa) (hx : ox.size ≤ maxLen) (w : World) (h : LW A base R w wb t u m ks O F) :
    Calls Tryz.prog 68 #[.pointer (some ⟨wb, 0, none⟩), .agg #[.pointer (some ⟨k.fb, 0, none⟩), .pointer (some ⟨k.rb, 0, none⟩)], .agg #[.int .i64 K, .int .i64 on, .int .i64 oa, .string ox, .int .i64 N, .int .i64 W, .int .i64 B, .int .i64 L, .int .i64 f0, .int .i64 f1, .int .i64 f2, .int .i64 f3, .int .i64 f4, .slice fa fl fc, .string fs]] w fun e w' => e = .returned (.bool true) ∧ KW A base R wb t u m ks w w' := by
  have hc : K = 11 ∨ K = 12 ∨ K = 13 ∨ K = 14 ∨ K = 15 ∨ K = 16 ∨ K = 17 ∨ K = 18 := by omega
  rcases hc with rfl | rfl | rfl | rfl | rfl | rfl | rfl | rfl
  · exact knotSay A base R wb t u m ks O F i k on oa ox N W B L f0 f1 f2 f3 f4 fa fl fc fs hi ht hu hm w h
  · exact knotHear A base R wb t u m ks O F i k on oa ox N W B L f0 f1 f2 f3 f4 fa fl fc fs hi ht hu hm hx w h
  · exact knotPass A base R wb t u m ks O F i k on oa ox N W B L f0 f1 f2 f3 f4 fa fl fc fs hi ht hu hm ha w h
  · exact knotTick A base R wb t u m ks O F i k on oa ox N W B L f0 f1 f2 f3 f4 fa fl fc fs hi ht hu hm w h
  · exact knotHeard A base R wb t u m ks O F i k on oa ox N W B L f0 f1 f2 f3 f4 fa fl fc fs hi ht hu hm w h
  · exact knotClock A base R wb t u m ks O F i k on oa ox N W B L f0 f1 f2 f3 f4 fa fl fc fs hi ht hu hm w h
  · exact knotView A base R wb t u m ks O F i k on oa ox N W B L f0 f1 f2 f3 f4 fa fl fc fs hi ht hu hm w h
  · exact knotStore A base R wb t u m ks O F i k on oa ox N W B L f0 f1 f2 f3 f4 fa fl fc fs hi ht hu hm w h
end Go.Proofs.YtabecbjfamphbaaGreatDoor

/- The law's world: node. -/
namespace Go.Proofs.YtabecbjfamphbaaGreatDoor
open Go.RowKit Go.Stop Go.Extern

theorem Tryz.infoKnot : (Tryz.prog.info? 123).map (fun i => (i.zero, i.size, i.bytes)) = some (some (.agg #[.pointer none, .pointer none]), 2, 16) := by kernel_rfl
section
variable {A : Nat → Addr} {base : Nat} {R : Nat → Prop} {w X : World} {wb t u m : Nat} {ks : List Kn} {O : Nat → Prop} {F : Nat → Nat → Prop}
theorem LW.pairNew (h : LW A base R w wb t u m ks O F) (hbX : Below w.heap.size w X) (N W B L oa : Int) (h0 : newNodeK N W B L oa = 0) :
    ∃ (D : World → Nat → Prop),
      (Calls Tryz.prog 27 #[.agg #[.int .i64 N, .int .i64 W, .int .i64 B, .int .i64 L], .int .i64 oa] X fun e w1 => ∃ fb, e = .returned (.tuple #[.pointer (some ⟨fb, 0, none⟩), .int .i64 0]) ∧ D w1 fb) ∧
      (∀ w1 fb, D w1 fb → ∀ j o val, X.cell? ⟨j, o, none⟩ = some val → w1.cell? ⟨j, o, none⟩ = some val) ∧
      (∀ w1 fb, D w1 fb → Calls Tryz.prog 106 #[.agg #[.int .i64 N, .int .i64 W, .int .i64 B, .int .i64 L], .int .i64 oa] w1 fun e w2 => ∃ rb, e = .returned (.tuple #[.pointer (some ⟨rb, 0, none⟩), .int .i64 0]) ∧
        ∃ ka kc, w2.cell? ⟨wb, 3, none⟩ = some (.slice ka ks.length kc) ∧ w2.ownsRow 0 123 2 (.slice ka ks.length kc) ks.length (knrow ks) ∧ (∃ cur, w2.heap[wb]? = some (.cells cur 79 (0, 0))) ∧
        ∀ w', Grw 79 w2 w' wb 3 123 2 ka (ks.length + 1) (knrow ks ++ [.pointer (some ⟨fb, 0, none⟩), .pointer (some ⟨rb, 0, none⟩)]) → (∃ ks' O' F', LW A base R w' wb t u (m + 1) ks' O' F' ∧ ks'.length = ks.length + 1) ∧ Kp2 R w w') := by
  have hL := h.low hbX
  have hb0 := hbX.size
  obtain ⟨g, p, hg, hp, rfl, rfl, rfl, rfl, rfl⟩ : ∃ (g : Gr) (p : Nat), g.Ok ∧ p < g.n ∧ (g.n : Int) = N ∧ g.W = W ∧ g.B = B ∧ g.L = L ∧ (p : Int) = oa := by
    unfold newNodeK at h0
    split at h0
    · rename_i hh
      simp only [Bool.and_eq_true, decide_eq_true_eq] at hh
      obtain ⟨h1, h2, h3⟩ := hh
      have h4 := okG_iff.1 h1
      refine ⟨⟨N.toNat, W, B, L⟩, oa.toNat, ⟨⟨by simp only; omega, by simp only; omega⟩, ⟨by simp only; omega, by simp only; omega⟩, ⟨by simp only; omega, by simp only; omega⟩, ⟨by simp only; omega, by simp only; omega⟩⟩, by simp only; omega, by simp only; omega, rfl, rfl, rfl, by omega⟩
    · cases h0
  refine ⟨fun w1 fb => (∃ b F1, w1.cell? ⟨fb, 0, none⟩ = some (.pointer (some ⟨b, 0, none⟩)) ∧ NodeAt w1 b g p (NS.new g) F1 ∧ (∀ k, F1 k → X.heap.size ≤ k ∧ k ≠ fb) ∧ X.heap.size ≤ fb) ∧ Below X.heap.size X w1, ?_, ?_, ?_⟩
  · refine (faceNew A base g p hg hp X hL.sl).mono ?_
    rintro e w1 ⟨⟨fb, b, F1, rfl, h1, h2, h3, h4⟩, hb⟩
    exact ⟨fb, rfl, ⟨b, F1, h1, h2, h3, h4⟩, hb⟩
  · intro w1 fb hd j o val hc
    exact (hd.2.cell (p := ⟨j, o, none⟩) (lt_of_cell hc)).trans hc
  · rintro w1 fb ⟨⟨b, F1, h1, h2, h3, h4⟩, hb⟩
    refine (refNew (g.n : Int) g.W g.B g.L (p : Int) w1).mono ?_
    rintro e w2 ⟨⟨v, rfl, _, hyes⟩, hb2⟩
    obtain ⟨rb, F2, rfl, r1, r2⟩ := hyes h0
    have r1' : RefAt w2 rb g p (NS.new g) 0 F2 := by
      have e1 : (g.n : Int).toNat = g.n := by omega
      have e2 : (p : Int).toNat = p := by omega
      rw [e1, e2] at r1
      exact r1
    have hL2 := (hL.low hb).low hb2
    have hbs := hb.size
    obtain ⟨ka, kc, c3, hown, hka⟩ := hL2.bk.kn
    rw [h0]
    refine ⟨rb, rfl, ka, kc, c3, hown, hL2.bk.ty, fun w' hg' => ?_⟩
    have hfl : fb < w1.heap.size := lt_of_cell h1
    obtain ⟨F', k1, k2⟩ := knotAt_of (w := w2) (k := ⟨fb, rb, g, p, NS.new g⟩) (m := m + 1) hg hp (NS.new_ok hg p) ((hb2.cell (p := ⟨fb, 0, none⟩) hfl).trans h1) (h2.low hb2) (r1'.more (Nat.zero_le _)) (fun j hj => ⟨fun hc => by
      have := h2.lt hj
      have := r2 j hc
      omega, (h3 j hj).2⟩) (fun j hj e => by
      have := r2 j hj
      have e' : j = fb := e
      omega)
    have hbw : Below w.heap.size w w2 := bthen hbX (bthen hb hb2)
    obtain ⟨⟨O', l1⟩, l2⟩ := h.add (k := ⟨fb, rb, g, p, NS.new g⟩) hbw k1 (fun j hj => by
      rcases k2 j hj with e | h7 | h7
      · have e' : j = fb := e
        omega
      · have := (h3 j h7).1
        omega
      · have := r2 j h7
        omega) hown hka (by
      rw [knrow_append]
      exact hg')
    exact ⟨⟨_, O', _, l1, by simp⟩, l2⟩
end
set_option maxRecDepth 100000 in
set_option maxHeartbeats 4000000 in
theorem node_yes (A : Nat → Addr) (base : Nat) (R : Nat → Prop) (wb t u m : Nat) (ks : List Kn) (O : Nat → Prop) (F : Nat → Nat → Prop) (on oa : Int) (ox : ByteArray) (N W B L f0 f1 f2 f3 f4 : Int) (fa : Option Addr) (fl fc : Nat) (fs : ByteArray) (h0 : newNodeK N W B L oa = 0) (hm : m ≤ 1000000) (w : World) (h : LW A base R w wb t u m ks O F) :
    Calls Tryz.prog 67 #[.pointer (some ⟨wb, 0, none⟩), .agg #[.int .i64 10, .int .i64 on, .int .i64 oa, .string ox, .int .i64 N, .int .i64 W, .int .i64 B, .int .i64 L, .int .i64 f0, .int .i64 f1, .int .i64 f2, .int .i64 f3, .int .i64 f4, .slice fa fl fc, .string fs]] w fun e w' => e = .returned (.bool true) ∧ (∃ ks' O' F', LW A base R w' wb t u (m + 1) ks' O' F' ∧ ks'.length = ks.length + 1) ∧ Kp2 R w w' := by
  have hfew := h.few
  obtain ⟨X, hX⟩ : ∃ X, X = w.alloc (.cells #[.int .i64 10, .int .i64 on, .int .i64 oa, .string ox, .int .i64 N, .int .i64 W, .int .i64 B, .int .i64 L, .int .i64 f0, .int .i64 f1, .int .i64 f2, .int .i64 f3, .int .i64 f4, .slice fa fl fc, .string fs] 81) := ⟨_, rfl⟩
  have hbX : Below w.heap.size w X := by rw [hX]; exact below1 _ _
  have qo : ∀ j, X.cell? ⟨w.heap.size, j, none⟩ = #[Value.int .i64 10, .int .i64 on, .int .i64 oa, .string ox, .int .i64 N, .int .i64 W, .int .i64 B, .int .i64 L, .int .i64 f0, .int .i64 f1, .int .i64 f2, .int .i64 f3, .int .i64 f4, .slice fa fl fc, .string fs][j]? := fun j => by rw [hX]; exact cell_of_row _ _ j _ _ (0, 0) (heap_alloc_new _ _)
  obtain ⟨D, hF, hC, hR⟩ := h.pairNew hbX N W B L oa h0
  have HF : Hid _ := hF
  have HR : Hid _ := hR
  have HC : Hid (∀ w1 fb, D w1 fb → w1.cell? ⟨w.heap.size, 2, none⟩ = some (.int .i64 oa) ∧ w1.cell? ⟨w.heap.size, 4, none⟩ = some (.int .i64 N) ∧ w1.cell? ⟨w.heap.size, 5, none⟩ = some (.int .i64 W) ∧ w1.cell? ⟨w.heap.size, 6, none⟩ = some (.int .i64 B) ∧ w1.cell? ⟨w.heap.size, 7, none⟩ = some (.int .i64 L)) := fun w1 fb hd => ⟨hC w1 fb hd _ 2 _ (qo 2), hC w1 fb hd _ 4 _ (qo 4), hC w1 fb hd _ 5 _ (qo 5), hC w1 fb hd _ 6 _ (qo 6), hC w1 fb hd _ 7 _ (qo 7)⟩
  obtain ⟨i0, hi, hz0, hz1, hz2⟩ := info_parts Tryz.infoKnot
  subst hX
  clear h hF hC hR qo hbX h0
  go_enter Tryz.func67, Tryz.ntmps67
  go_wp2_with fail
  generalize w.alloc (.cells #[.int .i64 10, .int .i64 on, .int .i64 oa, .string ox, .int .i64 N, .int .i64 W, .int .i64 B, .int .i64 L, .int .i64 f0, .int .i64 f1, .int .i64 f2, .int .i64 f3, .int .i64 f4, .slice fa fl fc, .string fs] 81) = X at *
  refine (show Calls _ _ _ _ _ from HF.out).mono ?_
  rintro e w1 ⟨fb, rfl, hd⟩
  obtain ⟨q2, q4, q5, q6, q7⟩ := HC.out w1 _ hd
  have HD : Hid _ := hd
  clear hd
  go_wp2_with fail
  refine (show Calls _ _ _ _ _ from HR.out w1 _ HD.out).mono ?_
  rintro e w2 ⟨rb, rfl, ka, kc, c3, hown, hty, hadd⟩
  have HAdd : Hid _ := hadd
  have HTy : Hid _ := hty
  have HOw : Hid _ := hown
  have hnb : some wb ≠ (Value.slice ka ks.length kc).ownBlock := fun he => by
    obtain ⟨cur, e⟩ := hty
    obtain ⟨_, e'⟩ := own_block hown (own_on hown he.symm)
    exact ty_ne e e' (by decide) rfl
  have fz := frozen_ty hty 3
  have hbX : wb < w2.heap.size := lt_of_cell c3
  have HO : Hid (∀ x : World, Below w2.heap.size w2 x → x.ownsRow 0 123 2 (.slice ka ks.length kc) ks.length (knrow ks)) := fun x hx => row_low hown hx
  have hone : ∀ u ∈ ([.pointer (some ⟨fb, 0, none⟩), .pointer (some ⟨rb, 0, none⟩)] : List Value), u.oneCell' = true := by
    intro u hu
    simp at hu
    rcases hu with rfl | rfl <;> rfl
  have hkl : ks.length ≤ 1000000 := by omega
  generalize knrow ks = kr at *
  generalize hkl9 : ks.length = kl at *
  have HKL : Hid (ks.length = kl) := hkl9
  clear hkl9
  clear hown hty hadd q2 q4 q5 q6 q7
  go_wp2_with fail
  refine (num_any _ _).mono ?_
  rintro e w2 ⟨rfl, rfl⟩
  go_wp2_with (at_builtin; refine wpList_append_lies _ rfl (.tmp 42) (.tmp 46) 75 rfl 0 123 i0 _ 2 16 Tryz.underlying75 hi hz0 hz1 hz2 rfl (by decide) (.slice ka kl kc) kl kr rfl (HO.out _ (below1 _ _)) ⟨w2.heap.size, 0, none⟩ 1 1 [.pointer (some ⟨fb, 0, none⟩), .pointer (some ⟨rb, 0, none⟩)] rfl rfl (World.news_of_block (heap_alloc_new w2 _)) hone (by decide) (by unfold maxLen; omega) (by omega) (Nat.zero_le _) _ rfl ?_)
  intro g' cap' v1 hown hgrow hat hlt2
  have c11 : v1.cell? ⟨wb, 3, none⟩ = some (.slice ka kl kc) := (hgrow.cell_far ⟨wb, 3, none⟩ (by simp; omega) hnb).trans ((Below.cell (B := w2.heap.size) (w := w2) (below1 _ _) (p := ⟨wb, 3, none⟩) hbX).trans c3)
  have f11 : v1.frozen? ⟨wb, 3, none⟩ = false := (hgrow.frozen_far ⟨wb, 3, none⟩ (by simp; omega) hnb).trans ((Below.frozen (B := w2.heap.size) (w := w2) (below1 _ _) (p := ⟨wb, 3, none⟩) hbX).trans fz)
  have HG2 : Hid (Grw 79 w2 (v1.setCell ⟨wb, 3, none⟩ (.slice (some ⟨g', 0, none⟩) (kl + 1) cap')) wb 3 123 2 ka (kl + 1) (kr ++ [.pointer (some ⟨fb, 0, none⟩), .pointer (some ⟨rb, 0, none⟩)])) := grw_in (t := 79) (i := 3) (u := .slice ka kl kc) HTy.out (by decide) HOw.out (below1 _ _) hgrow hat (by simp) hown c11
  clear hown hgrow hat hlt2
  go_wp2_with fail
  go_ret
  refine ⟨rfl, ?_⟩
  rw [HKL.out]
  exact HAdd.out _ HG2.out
set_option maxRecDepth 100000 in
set_option maxHeartbeats 2000000 in
theorem node_no (A : Nat → Addr) (base : Nat) (R : Nat → Prop) (wb t u m : Nat) (ks : List Kn) (O : Nat → Prop) (F : Nat → Nat → Prop) (on oa : Int) (ox : ByteArray) (N W B L f0 f1 f2 f3 f4 : Int) (fa : Option Addr) (fl fc : Nat) (fs : ByteArray) (h0 : newNodeK N W B L oa ≠ 0) (w : World) (h : LW A base R w wb t u m ks O F) :
    Calls Tryz.prog 67 #[.pointer (some ⟨wb, 0, none⟩), .agg #[.int .i64 10, .int .i64 on, .int .i64 oa, .string ox, .int .i64 N, .int .i64 W, .int .i64 B, .int .i64 L, .int .i64 f0, .int .i64 f1, .int .i64 f2, .int .i64 f3, .int .i64 f4, .slice fa fl fc, .string fs]] w fun e w' => e = .returned (.bool true) ∧ (∃ ks' O' F', LW A base R w' wb t u (m + 1) ks' O' F' ∧ ks'.length = ks.length) ∧ Kp2 R w w' := by
  obtain ⟨X, hX⟩ : ∃ X, X = w.alloc (.cells #[.int .i64 10, .int .i64 on, .int .i64 oa, .string ox, .int .i64 N, .int .i64 W, .int .i64 B, .int .i64 L, .int .i64 f0, .int .i64 f1, .int .i64 f2, .int .i64 f3, .int .i64 f4, .slice fa fl fc, .string fs] 81) := ⟨_, rfl⟩
  have hbX : Below w.heap.size w X := by rw [hX]; exact below1 _ _
  have qo : ∀ j, X.cell? ⟨w.heap.size, j, none⟩ = #[Value.int .i64 10, .int .i64 on, .int .i64 oa, .string ox, .int .i64 N, .int .i64 W, .int .i64 B, .int .i64 L, .int .i64 f0, .int .i64 f1, .int .i64 f2, .int .i64 f3, .int .i64 f4, .slice fa fl fc, .string fs][j]? := fun j => by rw [hX]; exact cell_of_row _ _ j _ _ (0, 0) (heap_alloc_new _ _)
  have HF : Hid _ := faceNo A base N W B L oa h0 X (h.low hbX).sl
  have HR : Hid (∀ w1, Below X.heap.size X w1 → Calls Tryz.prog 106 #[.agg #[.int .i64 N, .int .i64 W, .int .i64 B, .int .i64 L], .int .i64 oa] w1 fun e w2 => e = .returned (.tuple #[.pointer none, .int .i64 (newNodeK N W B L oa : Int)]) ∧ ∀ w', w2 = w' → (∃ ks' O' F', LW A base R w' wb t u (m + 1) ks' O' F' ∧ ks'.length = ks.length) ∧ Kp2 R w w') := fun w1 hb => by
    refine (refNew N W B L oa w1).mono ?_
    rintro e w2 ⟨⟨v, rfl, hno, _⟩, hb2⟩
    have hv := hno h0
    subst hv
    refine ⟨rfl, fun w' e => ?_⟩
    subst e
    have hbw : Below w.heap.size w w2 := bthen hbX (bthen hb hb2)
    exact ⟨⟨ks, O, F, (h.low hbw).more (Nat.le_refl _) (Nat.le_refl _) (Nat.le_succ _), rfl⟩, (h.same hbw).kp⟩
  have HC : Hid (∀ w1, Below X.heap.size X w1 → w1.cell? ⟨w.heap.size, 2, none⟩ = some (.int .i64 oa) ∧ w1.cell? ⟨w.heap.size, 4, none⟩ = some (.int .i64 N) ∧ w1.cell? ⟨w.heap.size, 5, none⟩ = some (.int .i64 W) ∧ w1.cell? ⟨w.heap.size, 6, none⟩ = some (.int .i64 B) ∧ w1.cell? ⟨w.heap.size, 7, none⟩ = some (.int .i64 L)) := fun w1 hb => ⟨(hb.cell (p := ⟨w.heap.size, 2, none⟩) (lt_of_cell (qo 2))).trans (qo 2), (hb.cell (p := ⟨w.heap.size, 4, none⟩) (lt_of_cell (qo 4))).trans (qo 4), (hb.cell (p := ⟨w.heap.size, 5, none⟩) (lt_of_cell (qo 5))).trans (qo 5), (hb.cell (p := ⟨w.heap.size, 6, none⟩) (lt_of_cell (qo 6))).trans (qo 6), (hb.cell (p := ⟨w.heap.size, 7, none⟩) (lt_of_cell (qo 7))).trans (qo 7)⟩
  subst hX
  clear h qo hbX h0
  generalize newNodeK N W B L oa = kk at *
  have ek : ((kk : Int) == kk) = true := by simp
  go_enter Tryz.func67, Tryz.ntmps67
  go_wp2_with fail
  generalize w.alloc (.cells #[.int .i64 10, .int .i64 on, .int .i64 oa, .string ox, .int .i64 N, .int .i64 W, .int .i64 B, .int .i64 L, .int .i64 f0, .int .i64 f1, .int .i64 f2, .int .i64 f3, .int .i64 f4, .slice fa fl fc, .string fs] 81) = X at *
  refine (show Calls _ _ _ _ _ from HF.out).mono ?_
  rintro e w1 ⟨rfl, hb1⟩
  obtain ⟨q2, q4, q5, q6, q7⟩ := HC.out w1 hb1
  have HB1 : Hid (Below X.heap.size X w1) := hb1
  clear hb1
  go_wp2_with fail
  refine (show Calls _ _ _ _ _ from HR.out w1 HB1.out).mono ?_
  rintro e w2 ⟨rfl, hK⟩
  have HK : Hid _ := hK
  clear hK q2 q4 q5 q6 q7
  go_wp2_with (go_at_call 107; refine (num_any _ _).mono ?_; rintro e w' ⟨rfl, rfl⟩)
  go_ret
  exact ⟨rfl, HK.out _ rfl⟩
end Go.Proofs.YtabecbjfamphbaaGreatDoor

/- The law's world: step, of the kinds of nodes. -/
namespace Go.Proofs.YtabecbjfamphbaaGreatDoor
open Go.RowKit Go.Stop Go.Extern

/-- The law's world behind NewNode. -/
def NW (A : Nat → Addr) (base : Nat) (R : Nat → Prop) (wb t u m : Nat) (ks : List Kn) (c : Nat) (w w' : World) : Prop := (∃ ks' O' F', LW A base R w' wb t u (m + 1) ks' O' F' ∧ ks'.length = ks.length + c) ∧ Kp2 R w w'
set_option maxRecDepth 100000 in
set_option maxHeartbeats 4000000 in
theorem step_node (A : Nat → Addr) (base : Nat) (R : Nat → Prop) (wb t u m : Nat) (ks : List Kn) (O : Nat → Prop) (F : Nat → Nat → Prop) (on oa : Int) (ox : ByteArray) (N W B L f0 f1 f2 f3 f4 : Int) (fa : Option Addr) (fl fc : Nat) (fs : ByteArray) (hm : m ≤ 1000000) (w : World) (h : LW A base R w wb t u m ks O F) :
    Calls Tryz.prog 37 #[.pointer (some ⟨wb, 0, none⟩), .agg #[.int .i64 10, .int .i64 on, .int .i64 oa, .string ox, .int .i64 N, .int .i64 W, .int .i64 B, .int .i64 L, .int .i64 f0, .int .i64 f1, .int .i64 f2, .int .i64 f3, .int .i64 f4, .slice fa fl fc, .string fs]] w fun e w' => e = .returned (.bool true) ∧ NW A base R wb t u m ks (if newNodeK N W B L oa = 0 then 1 else 0) w w' := by
  have HN : Hid (∀ X, Below w.heap.size w X → Calls Tryz.prog 67 #[.pointer (some ⟨wb, 0, none⟩), .agg #[.int .i64 10, .int .i64 on, .int .i64 oa, .string ox, .int .i64 N, .int .i64 W, .int .i64 B, .int .i64 L, .int .i64 f0, .int .i64 f1, .int .i64 f2, .int .i64 f3, .int .i64 f4, .slice fa fl fc, .string fs]] X fun e w' => e = .returned (.bool true) ∧ NW A base R wb t u m ks (if newNodeK N W B L oa = 0 then 1 else 0) w w') := fun X hb => by
    by_cases e : newNodeK N W B L oa = 0
    · rw [if_pos e]
      exact (node_yes A base R wb t u m ks O F on oa ox N W B L f0 f1 f2 f3 f4 fa fl fc fs e hm X (h.low hb)).mono fun e w' hh => ⟨hh.1, hh.2.1, (h.same hb).kp.trans hh.2.2⟩
    · rw [if_neg e]
      exact (node_no A base R wb t u m ks O F on oa ox N W B L f0 f1 f2 f3 f4 fa fl fc fs e X (h.low hb)).mono fun e w' hh => ⟨hh.1, hh.2.1, (h.same hb).kp.trans hh.2.2⟩
  clear h
  generalize NW A base R wb t u m ks (if newNodeK N W B L oa = 0 then 1 else 0) w = KK at *
  go_enter Tryz.func37, Tryz.ntmps37
  go_wp2_with fail
  refine (show Calls _ _ _ _ _ from HN.out _ (below1 _ _)).mono ?_
  rintro e w' ⟨rfl, hK⟩
  have HK : Hid _ := hK
  clear hK
  go_wp2_with fail
  go_ret
  exact ⟨rfl, HK.out⟩
set_option maxRecDepth 100000 in
set_option maxHeartbeats 4000000 in
theorem step_none (A : Nat → Addr) (base : Nat) (R : Nat → Prop) (wb t u m : Nat) (ks : List Kn) (O : Nat → Prop) (F : Nat → Nat → Prop) (K : Int) (on oa : Int) (ox : ByteArray) (N W B L f0 f1 f2 f3 f4 : Int) (fa : Option Addr) (fl fc : Nat) (fs : ByteArray) (hK : 11 ≤ K ∧ K ≤ 18) (hks : ks.length = 0) (w : World) (h : LW A base R w wb t u m ks O F) :
    Calls Tryz.prog 37 #[.pointer (some ⟨wb, 0, none⟩), .agg #[.int .i64 K, .int .i64 on, .int .i64 oa, .string ox, .int .i64 N, .int .i64 W, .int .i64 B, .int .i64 L, .int .i64 f0, .int .i64 f1, .int .i64 f2, .int .i64 f3, .int .i64 f4, .slice fa fl fc, .string fs]] w fun e w' => e = .returned (.bool true) ∧ KW A base R wb t u m ks w w' := by
  have HK : Hid (∀ X, Below w.heap.size w X → KW A base R wb t u m ks w X) := fun X hb => ⟨⟨ks, O, F, (h.low hb).more (Nat.le_succ _) (Nat.le_succ _) (Nat.le_succ _), rfl⟩, h.same hb⟩
  obtain ⟨ka, kc, c3, _⟩ := (h.low (below1 w (.cells #[.int .i64 K, .int .i64 on, .int .i64 oa, .string ox, .int .i64 N, .int .i64 W, .int .i64 B, .int .i64 L, .int .i64 f0, .int .i64 f1, .int .i64 f2, .int .i64 f3, .int .i64 f4, .slice fa fl fc, .string fs] 81))).bk.kn
  rw [hks] at c3
  obtain ⟨h1, h2⟩ := hK
  clear h hks
  generalize KW A base R wb t u m ks w = KK at *
  go_enter Tryz.func37, Tryz.ntmps37
  go_wp2_with fail
  go_ret
  exact ⟨rfl, HK.out _ (below1 _ _)⟩
end Go.Proofs.YtabecbjfamphbaaGreatDoor

/- The law's world: step, a call of a node. -/
namespace Go.Proofs.YtabecbjfamphbaaGreatDoor
open Go.RowKit Go.Stop Go.Extern

set_option maxRecDepth 100000 in
set_option maxHeartbeats 4000000 in
theorem step_knot (A : Nat → Addr) (base : Nat) (R : Nat → Prop) (wb t u m : Nat) (ks : List Kn) (O : Nat → Prop) (F : Nat → Nat → Prop) (K : Int) (on oa : Int) (ox : ByteArray) (N W B L f0 f1 f2 f3 f4 : Int) (fa : Option Addr) (fl fc : Nat) (fs : ByteArray) (hK : 11 ≤ K ∧ K ≤ 18) (hks : 0 < ks.length) (ht : t ≤ 240000) (hu : u ≤ 240000) (hm : m ≤ 1000000) (ho : I64 on) (ha : I64 oa) (hx : ox.size ≤ maxLen) (w : World) (h : LW A base R w wb t u m ks O F) :
    Calls Tryz.prog 37 #[.pointer (some ⟨wb, 0, none⟩), .agg #[.int .i64 K, .int .i64 on, .int .i64 oa, .string ox, .int .i64 N, .int .i64 W, .int .i64 B, .int .i64 L, .int .i64 f0, .int .i64 f1, .int .i64 f2, .int .i64 f3, .int .i64 f4, .slice fa fl fc, .string fs]] w fun e w' => e = .returned (.bool true) ∧ KW A base R wb t u m ks w w' := by
  have hfew := h.few
  have hpb := pk_bd on ks.length (by omega)
  obtain ⟨i, hip⟩ : ∃ i : Nat, (i : Int) = pk on ks.length := ⟨(pk on ks.length).toNat, by omega⟩
  have hil : i < ks.length := by omega
  obtain ⟨k, hi⟩ : ∃ k, ks[i]? = some k := ⟨ks[i], List.getElem?_eq_getElem hil⟩
  have HPk : Hid (∀ y, Calls Tryz.prog 69 #[.int .i64 on, .int .i64 (ks.length : Int)] y fun e w' => e = .returned (.int .i64 (i : Int)) ∧ w' = y) := fun y => by rw [hip]; exact lpick_any on ks.length y ho (by omega) (by omega)
  obtain ⟨ka, kc, c3, hown, _⟩ := (h.low (below1 w (.cells #[.int .i64 K, .int .i64 on, .int .i64 oa, .string ox, .int .i64 N, .int .i64 W, .int .i64 B, .int .i64 L, .int .i64 f0, .int .i64 f1, .int .i64 f2, .int .i64 f3, .int .i64 f4, .slice fa fl fc, .string fs] 81))).bk.kn
  obtain ⟨r0, r1⟩ := knrow_get ks i k hi
  obtain ⟨gk, e1, k0, k1⟩ : ∃ gk, ka = some ⟨gk, 0, none⟩ ∧ (w.alloc (.cells #[.int .i64 K, .int .i64 on, .int .i64 oa, .string ox, .int .i64 N, .int .i64 W, .int .i64 B, .int .i64 L, .int .i64 f0, .int .i64 f1, .int .i64 f2, .int .i64 f3, .int .i64 f4, .slice fa fl fc, .string fs] 81)).cell? ⟨gk, i * 2, none⟩ = some (.pointer (some ⟨k.fb, 0, none⟩)) ∧ (w.alloc (.cells #[.int .i64 K, .int .i64 on, .int .i64 oa, .string ox, .int .i64 N, .int .i64 W, .int .i64 B, .int .i64 L, .int .i64 f0, .int .i64 f1, .int .i64 f2, .int .i64 f3, .int .i64 f4, .slice fa fl fc, .string fs] 81)).cell? ⟨gk, i * 2 + 1, none⟩ = some (.pointer (some ⟨k.rb, 0, none⟩)) := by
    rcases hown.2 with ⟨_, h9⟩ | ⟨gk, cap', cur, e, _⟩
    · omega
    · cases e
      exact ⟨gk, rfl, (World.ownsRow.cellAt hown (i * 2) (by omega)).trans r0, (World.ownsRow.cellAt hown (i * 2 + 1) (by omega)).trans r1⟩
  subst e1
  have qo : ∀ j, (w.alloc (.cells #[.int .i64 K, .int .i64 on, .int .i64 oa, .string ox, .int .i64 N, .int .i64 W, .int .i64 B, .int .i64 L, .int .i64 f0, .int .i64 f1, .int .i64 f2, .int .i64 f3, .int .i64 f4, .slice fa fl fc, .string fs] 81)).cell? ⟨w.heap.size, j, none⟩ = #[Value.int .i64 K, .int .i64 on, .int .i64 oa, .string ox, .int .i64 N, .int .i64 W, .int .i64 B, .int .i64 L, .int .i64 f0, .int .i64 f1, .int .i64 f2, .int .i64 f3, .int .i64 f4, .slice fa fl fc, .string fs][j]? := fun j => cell_of_row _ _ j _ _ (0, 0) (heap_alloc_new _ _)
  have o0 : (w.alloc (.cells #[.int .i64 K, .int .i64 on, .int .i64 oa, .string ox, .int .i64 N, .int .i64 W, .int .i64 B, .int .i64 L, .int .i64 f0, .int .i64 f1, .int .i64 f2, .int .i64 f3, .int .i64 f4, .slice fa fl fc, .string fs] 81)).cell? ⟨w.heap.size, 0, none⟩ = some (.int .i64 K) := qo 0
  have o1 : (w.alloc (.cells #[.int .i64 K, .int .i64 on, .int .i64 oa, .string ox, .int .i64 N, .int .i64 W, .int .i64 B, .int .i64 L, .int .i64 f0, .int .i64 f1, .int .i64 f2, .int .i64 f3, .int .i64 f4, .slice fa fl fc, .string fs] 81)).cell? ⟨w.heap.size, 1, none⟩ = some (.int .i64 on) := qo 1
  have o2 : (w.alloc (.cells #[.int .i64 K, .int .i64 on, .int .i64 oa, .string ox, .int .i64 N, .int .i64 W, .int .i64 B, .int .i64 L, .int .i64 f0, .int .i64 f1, .int .i64 f2, .int .i64 f3, .int .i64 f4, .slice fa fl fc, .string fs] 81)).cell? ⟨w.heap.size, 2, none⟩ = some (.int .i64 oa) := qo 2
  have o3 : (w.alloc (.cells #[.int .i64 K, .int .i64 on, .int .i64 oa, .string ox, .int .i64 N, .int .i64 W, .int .i64 B, .int .i64 L, .int .i64 f0, .int .i64 f1, .int .i64 f2, .int .i64 f3, .int .i64 f4, .slice fa fl fc, .string fs] 81)).cell? ⟨w.heap.size, 3, none⟩ = some (.string ox) := qo 3
  have o4 : (w.alloc (.cells #[.int .i64 K, .int .i64 on, .int .i64 oa, .string ox, .int .i64 N, .int .i64 W, .int .i64 B, .int .i64 L, .int .i64 f0, .int .i64 f1, .int .i64 f2, .int .i64 f3, .int .i64 f4, .slice fa fl fc, .string fs] 81)).cell? ⟨w.heap.size, 4, none⟩ = some (.int .i64 N) := qo 4
  have o5 : (w.alloc (.cells #[.int .i64 K, .int .i64 on, .int .i64 oa, .string ox, .int .i64 N, .int .i64 W, .int .i64 B, .int .i64 L, .int .i64 f0, .int .i64 f1, .int .i64 f2, .int .i64 f3, .int .i64 f4, .slice fa fl fc, .string fs] 81)).cell? ⟨w.heap.size, 5, none⟩ = some (.int .i64 W) := qo 5
  have o6 : (w.alloc (.cells #[.int .i64 K, .int .i64 on, .int .i64 oa, .string ox, .int .i64 N, .int .i64 W, .int .i64 B, .int .i64 L, .int .i64 f0, .int .i64 f1, .int .i64 f2, .int .i64 f3, .int .i64 f4, .slice fa fl fc, .string fs] 81)).cell? ⟨w.heap.size, 6, none⟩ = some (.int .i64 B) := qo 6
  have o7 : (w.alloc (.cells #[.int .i64 K, .int .i64 on, .int .i64 oa, .string ox, .int .i64 N, .int .i64 W, .int .i64 B, .int .i64 L, .int .i64 f0, .int .i64 f1, .int .i64 f2, .int .i64 f3, .int .i64 f4, .slice fa fl fc, .string fs] 81)).cell? ⟨w.heap.size, 7, none⟩ = some (.int .i64 L) := qo 7
  have o8 : (w.alloc (.cells #[.int .i64 K, .int .i64 on, .int .i64 oa, .string ox, .int .i64 N, .int .i64 W, .int .i64 B, .int .i64 L, .int .i64 f0, .int .i64 f1, .int .i64 f2, .int .i64 f3, .int .i64 f4, .slice fa fl fc, .string fs] 81)).cell? ⟨w.heap.size, 8, none⟩ = some (.int .i64 f0) := qo 8
  have o9 : (w.alloc (.cells #[.int .i64 K, .int .i64 on, .int .i64 oa, .string ox, .int .i64 N, .int .i64 W, .int .i64 B, .int .i64 L, .int .i64 f0, .int .i64 f1, .int .i64 f2, .int .i64 f3, .int .i64 f4, .slice fa fl fc, .string fs] 81)).cell? ⟨w.heap.size, 9, none⟩ = some (.int .i64 f1) := qo 9
  have o10 : (w.alloc (.cells #[.int .i64 K, .int .i64 on, .int .i64 oa, .string ox, .int .i64 N, .int .i64 W, .int .i64 B, .int .i64 L, .int .i64 f0, .int .i64 f1, .int .i64 f2, .int .i64 f3, .int .i64 f4, .slice fa fl fc, .string fs] 81)).cell? ⟨w.heap.size, 10, none⟩ = some (.int .i64 f2) := qo 10
  have o11 : (w.alloc (.cells #[.int .i64 K, .int .i64 on, .int .i64 oa, .string ox, .int .i64 N, .int .i64 W, .int .i64 B, .int .i64 L, .int .i64 f0, .int .i64 f1, .int .i64 f2, .int .i64 f3, .int .i64 f4, .slice fa fl fc, .string fs] 81)).cell? ⟨w.heap.size, 11, none⟩ = some (.int .i64 f3) := qo 11
  have o12 : (w.alloc (.cells #[.int .i64 K, .int .i64 on, .int .i64 oa, .string ox, .int .i64 N, .int .i64 W, .int .i64 B, .int .i64 L, .int .i64 f0, .int .i64 f1, .int .i64 f2, .int .i64 f3, .int .i64 f4, .slice fa fl fc, .string fs] 81)).cell? ⟨w.heap.size, 12, none⟩ = some (.int .i64 f4) := qo 12
  have o13 : (w.alloc (.cells #[.int .i64 K, .int .i64 on, .int .i64 oa, .string ox, .int .i64 N, .int .i64 W, .int .i64 B, .int .i64 L, .int .i64 f0, .int .i64 f1, .int .i64 f2, .int .i64 f3, .int .i64 f4, .slice fa fl fc, .string fs] 81)).cell? ⟨w.heap.size, 13, none⟩ = some (.slice fa fl fc) := qo 13
  have o14 : (w.alloc (.cells #[.int .i64 K, .int .i64 on, .int .i64 oa, .string ox, .int .i64 N, .int .i64 W, .int .i64 B, .int .i64 L, .int .i64 f0, .int .i64 f1, .int .i64 f2, .int .i64 f3, .int .i64 f4, .slice fa fl fc, .string fs] 81)).cell? ⟨w.heap.size, 14, none⟩ = some (.string fs) := qo 14
  clear qo
  have hki : (i : Int) < (ks.length : Int) := by omega
  have hkp : (0 : Int) < (ks.length : Int) := by omega
  have HKn : Hid (∀ y, Below (w.alloc (.cells #[.int .i64 K, .int .i64 on, .int .i64 oa, .string ox, .int .i64 N, .int .i64 W, .int .i64 B, .int .i64 L, .int .i64 f0, .int .i64 f1, .int .i64 f2, .int .i64 f3, .int .i64 f4, .slice fa fl fc, .string fs] 81)).heap.size (w.alloc (.cells #[.int .i64 K, .int .i64 on, .int .i64 oa, .string ox, .int .i64 N, .int .i64 W, .int .i64 B, .int .i64 L, .int .i64 f0, .int .i64 f1, .int .i64 f2, .int .i64 f3, .int .i64 f4, .slice fa fl fc, .string fs] 81)) y → Calls Tryz.prog 68 #[.pointer (some ⟨wb, 0, none⟩), .agg #[.pointer (some ⟨k.fb, 0, none⟩), .pointer (some ⟨k.rb, 0, none⟩)], .agg #[.int .i64 K, .int .i64 on, .int .i64 oa, .string ox, .int .i64 N, .int .i64 W, .int .i64 B, .int .i64 L, .int .i64 f0, .int .i64 f1, .int .i64 f2, .int .i64 f3, .int .i64 f4, .slice fa fl fc, .string fs]] y fun e w' => e = .returned (.bool true) ∧ KW A base R wb t u m ks w w' ∧ w'.cell? ⟨wb, 3, none⟩ = some (.slice (some ⟨gk, 0, none⟩) ks.length kc) ∧ w'.cell? ⟨gk, i * 2, none⟩ = some (.pointer (some ⟨k.fb, 0, none⟩)) ∧ w'.cell? ⟨gk, i * 2 + 1, none⟩ = some (.pointer (some ⟨k.rb, 0, none⟩)) ∧ w'.cell? ⟨w.heap.size, 0, none⟩ = some (.int .i64 K) ∧ w'.cell? ⟨w.heap.size, 1, none⟩ = some (.int .i64 on) ∧ w'.cell? ⟨w.heap.size, 2, none⟩ = some (.int .i64 oa) ∧ w'.cell? ⟨w.heap.size, 3, none⟩ = some (.string ox) ∧ w'.cell? ⟨w.heap.size, 4, none⟩ = some (.int .i64 N) ∧ w'.cell? ⟨w.heap.size, 5, none⟩ = some (.int .i64 W) ∧ w'.cell? ⟨w.heap.size, 6, none⟩ = some (.int .i64 B) ∧ w'.cell? ⟨w.heap.size, 7, none⟩ = some (.int .i64 L) ∧ w'.cell? ⟨w.heap.size, 8, none⟩ = some (.int .i64 f0) ∧ w'.cell? ⟨w.heap.size, 9, none⟩ = some (.int .i64 f1) ∧ w'.cell? ⟨w.heap.size, 10, none⟩ = some (.int .i64 f2) ∧ w'.cell? ⟨w.heap.size, 11, none⟩ = some (.int .i64 f3) ∧ w'.cell? ⟨w.heap.size, 12, none⟩ = some (.int .i64 f4) ∧ w'.cell? ⟨w.heap.size, 13, none⟩ = some (.slice fa fl fc) ∧ w'.cell? ⟨w.heap.size, 14, none⟩ = some (.string fs)) := fun y hy => by
    have hLX := h.wider (R' := fun j => R j ∨ j = w.heap.size) (below1 w (.cells #[.int .i64 K, .int .i64 on, .int .i64 oa, .string ox, .int .i64 N, .int .i64 W, .int .i64 B, .int .i64 L, .int .i64 f0, .int .i64 f1, .int .i64 f2, .int .i64 f3, .int .i64 f4, .slice fa fl fc, .string fs] 81)) (fun j hj => Or.inl hj) (fun j hj => by
      rcases hj with h1 | rfl
      · exact Or.inl h1
      · exact Or.inr ⟨Nat.le_refl _, by simp⟩)
    have hyc : ∀ j, y.cell? ⟨w.heap.size, j, none⟩ = (w.alloc (.cells #[.int .i64 K, .int .i64 on, .int .i64 oa, .string ox, .int .i64 N, .int .i64 W, .int .i64 B, .int .i64 L, .int .i64 f0, .int .i64 f1, .int .i64 f2, .int .i64 f3, .int .i64 f4, .slice fa fl fc, .string fs] 81)).cell? ⟨w.heap.size, j, none⟩ := fun j => World.cell?_of_block (hy.block w.heap.size (by simp))
    refine (knot_any A base (fun j => R j ∨ j = w.heap.size) wb t u m ks O F i k K on oa ox N W B L f0 f1 f2 f3 f4 fa fl fc fs hK hi ht hu (by omega) ha hx y (hLX.low hy)).mono fun e w' hh => ⟨hh.1, (hh.2.less (R' := R) (fun j hj => Or.inl hj) h.rb).of ((h.same (below1 w _)).trans (((h.low (below1 w _)).same hy))), ?_⟩
    have hko := hh.2.2.kp.blk w.heap.size (Or.inr rfl)
    have hkc : ∀ j, w'.cell? ⟨w.heap.size, j, none⟩ = (w.alloc (.cells #[.int .i64 K, .int .i64 on, .int .i64 oa, .string ox, .int .i64 N, .int .i64 W, .int .i64 B, .int .i64 L, .int .i64 f0, .int .i64 f1, .int .i64 f2, .int .i64 f3, .int .i64 f4, .slice fa fl fc, .string fs] 81)).cell? ⟨w.heap.size, j, none⟩ := fun j => (World.cell?_of_block hko).trans (hyc j)
    obtain ⟨a1, a2⟩ := ((hLX.same hy).trans hh.2.2).kn _ _ _ c3
    have hrow : ∀ j, w'.cell? ⟨gk, j, none⟩ = (w.alloc (.cells #[.int .i64 K, .int .i64 on, .int .i64 oa, .string ox, .int .i64 N, .int .i64 W, .int .i64 B, .int .i64 L, .int .i64 f0, .int .i64 f1, .int .i64 f2, .int .i64 f3, .int .i64 f4, .slice fa fl fc, .string fs] 81)).cell? ⟨gk, j, none⟩ := fun j => World.cell?_of_block (a2 gk ⟨0, rfl⟩)
    exact ⟨a1, (hrow _).trans k0, (hrow _).trans k1, (hkc 0).trans o0, (hkc 1).trans o1, (hkc 2).trans o2, (hkc 3).trans o3, (hkc 4).trans o4, (hkc 5).trans o5, (hkc 6).trans o6, (hkc 7).trans o7, (hkc 8).trans o8, (hkc 9).trans o9, (hkc 10).trans o10, (hkc 11).trans o11, (hkc 12).trans o12, (hkc 13).trans o13, (hkc 14).trans o14⟩
  obtain ⟨h1, h2⟩ := hK
  obtain ⟨fb, rb, g, p, s⟩ := k
  simp only at k0 k1 HKn
  clear h hi hown r0 r1 hpb hip
  generalize KW A base R wb t u m ks w = KK at *
  generalize ks.length = kl at *
  go_enter Tryz.func37, Tryz.ntmps37
  go_wp2_with fail
  generalize w.alloc (.cells #[.int .i64 K, .int .i64 on, .int .i64 oa, .string ox, .int .i64 N, .int .i64 W, .int .i64 B, .int .i64 L, .int .i64 f0, .int .i64 f1, .int .i64 f2, .int .i64 f3, .int .i64 f4, .slice fa fl fc, .string fs] 81) = X at *
  have HS0 : Hid (X.cell? ⟨wb, 3, none⟩ = some (.slice (some ⟨gk, 0, none⟩) kl kc) ∧ X.cell? ⟨gk, i * 2, none⟩ = some (.pointer (some ⟨fb, 0, none⟩)) ∧ X.cell? ⟨gk, i * 2 + 1, none⟩ = some (.pointer (some ⟨rb, 0, none⟩)) ∧ X.cell? ⟨w.heap.size, 0, none⟩ = some (.int .i64 K) ∧ X.cell? ⟨w.heap.size, 1, none⟩ = some (.int .i64 on) ∧ X.cell? ⟨w.heap.size, 2, none⟩ = some (.int .i64 oa) ∧ X.cell? ⟨w.heap.size, 3, none⟩ = some (.string ox) ∧ X.cell? ⟨w.heap.size, 4, none⟩ = some (.int .i64 N) ∧ X.cell? ⟨w.heap.size, 5, none⟩ = some (.int .i64 W) ∧ X.cell? ⟨w.heap.size, 6, none⟩ = some (.int .i64 B) ∧ X.cell? ⟨w.heap.size, 7, none⟩ = some (.int .i64 L) ∧ X.cell? ⟨w.heap.size, 8, none⟩ = some (.int .i64 f0) ∧ X.cell? ⟨w.heap.size, 9, none⟩ = some (.int .i64 f1) ∧ X.cell? ⟨w.heap.size, 10, none⟩ = some (.int .i64 f2) ∧ X.cell? ⟨w.heap.size, 11, none⟩ = some (.int .i64 f3) ∧ X.cell? ⟨w.heap.size, 12, none⟩ = some (.int .i64 f4) ∧ X.cell? ⟨w.heap.size, 13, none⟩ = some (.slice fa fl fc) ∧ X.cell? ⟨w.heap.size, 14, none⟩ = some (.string fs)) := ⟨c3, k0, k1, o0, o1, o2, o3, o4, o5, o6, o7, o8, o9, o10, o11, o12, o13, o14⟩
  go_region_held3 (fun v => v.cell? ⟨wb, 3, none⟩ = some (.slice (some ⟨gk, 0, none⟩) kl kc) ∧ v.cell? ⟨gk, i * 2, none⟩ = some (.pointer (some ⟨fb, 0, none⟩)) ∧ v.cell? ⟨gk, i * 2 + 1, none⟩ = some (.pointer (some ⟨rb, 0, none⟩)) ∧ v.cell? ⟨w.heap.size, 0, none⟩ = some (.int .i64 K) ∧ v.cell? ⟨w.heap.size, 1, none⟩ = some (.int .i64 on) ∧ v.cell? ⟨w.heap.size, 2, none⟩ = some (.int .i64 oa) ∧ v.cell? ⟨w.heap.size, 3, none⟩ = some (.string ox) ∧ v.cell? ⟨w.heap.size, 4, none⟩ = some (.int .i64 N) ∧ v.cell? ⟨w.heap.size, 5, none⟩ = some (.int .i64 W) ∧ v.cell? ⟨w.heap.size, 6, none⟩ = some (.int .i64 B) ∧ v.cell? ⟨w.heap.size, 7, none⟩ = some (.int .i64 L) ∧ v.cell? ⟨w.heap.size, 8, none⟩ = some (.int .i64 f0) ∧ v.cell? ⟨w.heap.size, 9, none⟩ = some (.int .i64 f1) ∧ v.cell? ⟨w.heap.size, 10, none⟩ = some (.int .i64 f2) ∧ v.cell? ⟨w.heap.size, 11, none⟩ = some (.int .i64 f3) ∧ v.cell? ⟨w.heap.size, 12, none⟩ = some (.int .i64 f4) ∧ v.cell? ⟨w.heap.size, 13, none⟩ = some (.slice fa fl fc) ∧ v.cell? ⟨w.heap.size, 14, none⟩ = some (.string fs)) (first | (exact HS0.out) | (exact HSW.out) | go_keep)
    (first | (go_at_call 69; refine (show Calls _ _ _ _ _ from HPk.out _).mono ?_; rintro e w' ⟨rfl, rfl⟩) | (go_at_call 68; refine (show Calls _ _ _ _ _ from HKn.out _ (by first | exact (Below.refl _ _).drew | exact Below.refl _ _ | exact below_drewN (Below.refl _ _) _)).mono ?_; rintro e w' ⟨rfl, hK, hSw⟩; have HK : Hid _ := hK; have HSW : Hid _ := hSw; clear hK hSw))
  all_goals
    go_wp2_with fail
    go_ret
    exact ⟨rfl, HK.out⟩
end Go.Proofs.YtabecbjfamphbaaGreatDoor

/- The law's step, of the kinds of nodes. -/
namespace Go.Proofs.YtabecbjfamphbaaGreatDoor
open Go.RowKit Go.Stop Go.Extern

/-- The law's world behind a step. -/
def SW (A : Nat → Addr) (base : Nat) (R : Nat → Prop) (wb t : Nat) (w w' : World) : Prop := (∃ ks O F, LW A base R w' wb t t t ks O F) ∧ Kp2 R w w'
theorem nstep_any (A : Nat → Addr) (base : Nat) (R : Nat → Prop) (wb t : Nat) (ks : List Kn) (O : Nat → Prop) (F : Nat → Nat → Prop) (o : Opp) (hK : 10 ≤ o.K ∧ o.K ≤ 18) (w0 : World) (ho : o.Ok w0) (ht : t ≤ 240000) (w : World) (h : LW A base R w wb t t t ks O F) :
    Calls Tryz.prog 37 #[.pointer (some ⟨wb, 0, none⟩), .agg #[.int .i64 o.K, .int .i64 o.on, .int .i64 o.a, .string o.s, .int .i64 o.N, .int .i64 o.W, .int .i64 o.B, .int .i64 o.L, .int .i64 o.f0, .int .i64 o.f1, .int .i64 o.f2, .int .i64 o.f3, .int .i64 o.f4, .slice o.fa o.fl o.fc, .string o.fb]] w fun e w' => e = .returned (.bool true) ∧ SW A base R wb (t + 1) w w' := by
  by_cases e : o.K = 10
  · have h1 := step_node A base R wb t t t ks O F o.on o.a o.s o.N o.W o.B o.L o.f0 o.f1 o.f2 o.f3 o.f4 o.fa o.fl o.fc o.fb (by omega) w h
    rw [e]
    refine h1.mono ?_
    rintro e w' ⟨rfl, ⟨ks', O', F', h2, _⟩, h3⟩
    exact ⟨rfl, ⟨ks', O', F', h2.more (Nat.le_succ _) (Nat.le_succ _) (Nat.le_refl _)⟩, h3⟩
  · by_cases h0 : ks.length = 0
    · refine (step_none A base R wb t t t ks O F o.K o.on o.a o.s o.N o.W o.B o.L o.f0 o.f1 o.f2 o.f3 o.f4 o.fa o.fl o.fc o.fb (by omega) h0 w h).mono ?_
      rintro e w' ⟨rfl, ⟨ks', O', F', h2, _⟩, h3⟩
      exact ⟨rfl, ⟨ks', O', F', h2⟩, h3.kp⟩
    · refine (step_knot A base R wb t t t ks O F o.K o.on o.a o.s o.N o.W o.B o.L o.f0 o.f1 o.f2 o.f3 o.f4 o.fa o.fl o.fc o.fb (by omega) (by omega) ht ht (by omega) ho.on ho.a ho.s w h).mono ?_
      rintro e w' ⟨rfl, ⟨ks', O', F', h2, _⟩, h3⟩
      exact ⟨rfl, ⟨ks', O', F', h2⟩, h3.kp⟩
end Go.Proofs.YtabecbjfamphbaaGreatDoor

/- The law's begins. -/
namespace Go.Proofs.YtabecbjfamphbaaGreatDoor
open Go.RowKit Go.Stop Go.Extern

/-- The law's world in begins: n nodes. -/
def BW (A : Nat → Addr) (base : Nat) (R : Nat → Prop) (wb t m n : Nat) (w w' : World) : Prop := (∃ ks O F, LW A base R w' wb t t m ks O F ∧ ks.length = n) ∧ Kp2 R w w'
section
variable {A : Nat → Addr} {base : Nat} {R : Nat → Prop} {wb t m n : Nat} {w w1 : World}
theorem BW.node (h : BW A base R wb t m n w w1) (hm : m ≤ 1000000) (a : Int) (h0 : newNodeK 2 1 3 9 a = 0) : Calls Tryz.prog 37 #[.pointer (some ⟨wb, 0, none⟩), .agg #[.int .i64 10, .int .i64 0, .int .i64 a, .string ⟨#[]⟩, .int .i64 2, .int .i64 1, .int .i64 3, .int .i64 9, .int .i64 0, .int .i64 0, .int .i64 0, .int .i64 0, .int .i64 0, .slice none 0 0, .string ⟨#[]⟩]] w1 fun e w' => e = .returned (.bool true) ∧ BW A base R wb t (m + 1) (n + 1) w w' := by
  obtain ⟨⟨ks, O, F, hL, hl⟩, hk⟩ := h
  refine (step_node A base R wb t t m ks O F 0 a ⟨#[]⟩ 2 1 3 9 0 0 0 0 0 none 0 0 ⟨#[]⟩ hm w1 hL).mono ?_
  rintro e w' ⟨rfl, ⟨ks', O', F', h2, h3⟩, h4⟩
  rw [if_pos h0] at h3
  exact ⟨rfl, ⟨ks', O', F', h2, by omega⟩, hk.trans h4⟩
theorem BW.knot (h : BW A base R wb t m n w w1) (hm : m ≤ 1000000) (ht : t ≤ 240000) (hn : 0 < n) (K on : Int) (x : ByteArray) (hK : 11 ≤ K ∧ K ≤ 18) (ho : I64 on) (hx : x.size ≤ maxLen) : Calls Tryz.prog 37 #[.pointer (some ⟨wb, 0, none⟩), .agg #[.int .i64 K, .int .i64 on, .int .i64 0, .string x, .int .i64 0, .int .i64 0, .int .i64 0, .int .i64 0, .int .i64 0, .int .i64 0, .int .i64 0, .int .i64 0, .int .i64 0, .slice none 0 0, .string ⟨#[]⟩]] w1 fun e w' => e = .returned (.bool true) ∧ BW A base R wb (t + 1) (m + 1) n w w' := by
  obtain ⟨⟨ks, O, F, hL, hl⟩, hk⟩ := h
  refine (step_knot A base R wb t t m ks O F K on 0 x 0 0 0 0 0 0 0 0 0 none 0 0 ⟨#[]⟩ hK (by omega) ht ht hm ho ⟨by decide, by decide⟩ hx w1 hL).mono ?_
  rintro e w' ⟨rfl, ⟨ks', O', F', h2, h3⟩, h4⟩
  exact ⟨rfl, ⟨ks', O', F', h2, by omega⟩, hk.trans h4.kp⟩
end
set_option maxRecDepth 100000 in
set_option maxHeartbeats 4000000 in
theorem begins_any (A : Nat → Addr) (base : Nat) (w : World) (hw : Sl w A base) (hz : base ≤ w.heap.size) :
    Calls Tryz.prog 36 #[.int .i64 10, .int .i64 18] w fun e w' => e = .returned (.bool true) ∧ Below w.heap.size w w' := by
  have hbX : Below w.heap.size w ((w.alloc (.cells #[.slice none 0 0, .slice none 0 0, .slice none 0 0, .slice none 0 0, .slice none 0 0, .slice none 0 0] 79)).alloc (.cells #[.int .i64 2, .int .i64 1, .int .i64 3, .int .i64 9] 26)) := bthen (below1 _ _) (below1 _ _)
  have h1 : ((w.alloc (.cells #[.slice none 0 0, .slice none 0 0, .slice none 0 0, .slice none 0 0, .slice none 0 0, .slice none 0 0] 79)).alloc (.cells #[.int .i64 2, .int .i64 1, .int .i64 3, .int .i64 9] 26)).heap[w.heap.size]? = some (.cells #[.slice none 0 0, .slice none 0 0, .slice none 0 0, .slice none 0 0, .slice none 0 0, .slice none 0 0] 79 (0, 0)) := (Below.block (below1 (w.alloc (.cells #[.slice none 0 0, .slice none 0 0, .slice none 0 0, .slice none 0 0, .slice none 0 0, .slice none 0 0] 79)) (.cells #[.int .i64 2, .int .i64 1, .int .i64 3, .int .i64 9] 26)) w.heap.size (by simp)).trans (heap_alloc_new _ _)
  have hsz : (w.alloc (.cells #[.slice none 0 0, .slice none 0 0, .slice none 0 0, .slice none 0 0, .slice none 0 0, .slice none 0 0] 79)).heap.size = w.heap.size + 1 := by simp
  have hsx : ((w.alloc (.cells #[.slice none 0 0, .slice none 0 0, .slice none 0 0, .slice none 0 0, .slice none 0 0, .slice none 0 0] 79)).alloc (.cells #[.int .i64 2, .int .i64 1, .int .i64 3, .int .i64 9] 26)).heap.size = w.heap.size + 2 := by simp
  have h2 : ((w.alloc (.cells #[.slice none 0 0, .slice none 0 0, .slice none 0 0, .slice none 0 0, .slice none 0 0, .slice none 0 0] 79)).alloc (.cells #[.int .i64 2, .int .i64 1, .int .i64 3, .int .i64 9] 26)).heap[w.heap.size + 1]? = some (.cells #[.int .i64 2, .int .i64 1, .int .i64 3, .int .i64 9] 26 (0, 0)) := by rw [← hsz]; exact heap_alloc_new _ _
  have hL0 : LW A base (fun j => j < w.heap.size ∨ j = w.heap.size + 1) ((w.alloc (.cells #[.slice none 0 0, .slice none 0 0, .slice none 0 0, .slice none 0 0, .slice none 0 0, .slice none 0 0] 79)).alloc (.cells #[.int .i64 2, .int .i64 1, .int .i64 3, .int .i64 9] 26)) w.heap.size 0 0 0 [] (fun j => j = w.heap.size) (fun _ _ => False) := LW.start (hw.low hbX) h1 (fun j hj => Or.inl (by omega)) (fun j hj => by rw [hsx]; omega) (by omega)
  have HB0 : Hid (BW A base (fun j => j < w.heap.size ∨ j = w.heap.size + 1) w.heap.size 0 0 0 ((w.alloc (.cells #[.slice none 0 0, .slice none 0 0, .slice none 0 0, .slice none 0 0, .slice none 0 0, .slice none 0 0] 79)).alloc (.cells #[.int .i64 2, .int .i64 1, .int .i64 3, .int .i64 9] 26)) ((w.alloc (.cells #[.slice none 0 0, .slice none 0 0, .slice none 0 0, .slice none 0 0, .slice none 0 0, .slice none 0 0] 79)).alloc (.cells #[.int .i64 2, .int .i64 1, .int .i64 3, .int .i64 9] 26))) := ⟨⟨_, _, _, hL0, rfl⟩, ⟨fun _ _ => rfl, Nat.le_refl _, rfl, rfl, rfl⟩⟩
  have HC : Hid (∀ t m n y, BW A base (fun j => j < w.heap.size ∨ j = w.heap.size + 1) w.heap.size t m n ((w.alloc (.cells #[.slice none 0 0, .slice none 0 0, .slice none 0 0, .slice none 0 0, .slice none 0 0, .slice none 0 0] 79)).alloc (.cells #[.int .i64 2, .int .i64 1, .int .i64 3, .int .i64 9] 26)) y → y.cell? ⟨w.heap.size + 1, 0, none⟩ = some (.int .i64 2) ∧ y.cell? ⟨w.heap.size + 1, 1, none⟩ = some (.int .i64 1) ∧ y.cell? ⟨w.heap.size + 1, 2, none⟩ = some (.int .i64 3) ∧ y.cell? ⟨w.heap.size + 1, 3, none⟩ = some (.int .i64 9)) := fun t m n y hy => by
    have e : ∀ j, y.cell? ⟨w.heap.size + 1, j, none⟩ = #[Value.int .i64 2, .int .i64 1, .int .i64 3, .int .i64 9][j]? := fun j => cell_of_row y _ j _ _ (0, 0) ((hy.2.blk _ (Or.inr rfl)).trans h2)
    exact ⟨e 0, e 1, e 2, e 3⟩
  have HE : Hid (∀ t m y, BW A base (fun j => j < w.heap.size ∨ j = w.heap.size + 1) w.heap.size t m 2 ((w.alloc (.cells #[.slice none 0 0, .slice none 0 0, .slice none 0 0, .slice none 0 0, .slice none 0 0, .slice none 0 0] 79)).alloc (.cells #[.int .i64 2, .int .i64 1, .int .i64 3, .int .i64 9] 26)) y → (∃ ka kc, y.cell? ⟨w.heap.size, 3, none⟩ = some (.slice ka 2 kc)) ∧ Below w.heap.size w y) := fun t m y hy => by
    obtain ⟨⟨ks, O, F, hL, hl⟩, hk⟩ := hy
    obtain ⟨ka, kc, c3, _⟩ := hL.bk.kn
    rw [hl] at c3
    exact ⟨⟨ka, kc, c3⟩, hbX.trans (hk.below (z := w.heap.size) (fun j hj => Or.inl hj))⟩
  have HS1 : Hid _ := HB0.out.node (by omega) 0 (by decide)
  have HS2 : Hid (∀ y, BW A base (fun j => j < w.heap.size ∨ j = w.heap.size + 1) w.heap.size 0 1 1 ((w.alloc (.cells #[.slice none 0 0, .slice none 0 0, .slice none 0 0, .slice none 0 0, .slice none 0 0, .slice none 0 0] 79)).alloc (.cells #[.int .i64 2, .int .i64 1, .int .i64 3, .int .i64 9] 26)) y → _) := fun y hy => hy.node (by omega) 1 (by decide)
  have HS3 : Hid (∀ y, BW A base (fun j => j < w.heap.size ∨ j = w.heap.size + 1) w.heap.size 0 2 2 ((w.alloc (.cells #[.slice none 0 0, .slice none 0 0, .slice none 0 0, .slice none 0 0, .slice none 0 0, .slice none 0 0] 79)).alloc (.cells #[.int .i64 2, .int .i64 1, .int .i64 3, .int .i64 9] 26)) y → _) := fun y hy => hy.knot (by omega) (by omega) (by omega) 11 0 ⟨#[121, 101, 115]⟩ ⟨by decide, by decide⟩ ⟨by decide, by decide⟩ (by decide)
  have HS4 : Hid (∀ y, BW A base (fun j => j < w.heap.size ∨ j = w.heap.size + 1) w.heap.size 1 3 2 ((w.alloc (.cells #[.slice none 0 0, .slice none 0 0, .slice none 0 0, .slice none 0 0, .slice none 0 0, .slice none 0 0] 79)).alloc (.cells #[.int .i64 2, .int .i64 1, .int .i64 3, .int .i64 9] 26)) y → _) := fun y hy => hy.knot (by omega) (by omega) (by omega) 13 1 ⟨#[]⟩ ⟨by decide, by decide⟩ ⟨by decide, by decide⟩ (by decide)
  have HS5 : Hid (∀ y, BW A base (fun j => j < w.heap.size ∨ j = w.heap.size + 1) w.heap.size 2 4 2 ((w.alloc (.cells #[.slice none 0 0, .slice none 0 0, .slice none 0 0, .slice none 0 0, .slice none 0 0, .slice none 0 0] 79)).alloc (.cells #[.int .i64 2, .int .i64 1, .int .i64 3, .int .i64 9] 26)) y → _) := fun y hy => hy.knot (by omega) (by omega) (by omega) 15 1 ⟨#[]⟩ ⟨by decide, by decide⟩ ⟨by decide, by decide⟩ (by decide)
  clear hw hz hbX h1 hsz hsx h2 hL0 HB0
  go_enter Tryz.func36, Tryz.ntmps36
  go_wp2_with fail
  generalize (w.alloc (.cells #[.slice none 0 0, .slice none 0 0, .slice none 0 0, .slice none 0 0, .slice none 0 0, .slice none 0 0] 79)).alloc (.cells #[.int .i64 2, .int .i64 1, .int .i64 3, .int .i64 9] 26) = X at *
  refine (show Calls _ _ _ _ _ from HS1.out).mono ?_
  rintro e w1 ⟨rfl, hn1⟩
  have HN1 : Hid _ := hn1
  obtain ⟨q0, q1, q2, q3⟩ := HC.out _ _ _ _ hn1
  clear hn1
  go_wp2_with fail
  refine (show Calls _ _ _ _ _ from HS2.out _ HN1.out).mono ?_
  rintro e w2 ⟨rfl, hn2⟩
  have HN2 : Hid _ := hn2
  clear hn2 q0 q1 q2 q3
  go_wp2_with fail
  refine (show Calls _ _ _ _ _ from HS3.out _ HN2.out).mono ?_
  rintro e w3 ⟨rfl, hn3⟩
  have HN3 : Hid _ := hn3
  clear hn3
  go_wp2_with fail
  refine (show Calls _ _ _ _ _ from HS4.out _ HN3.out).mono ?_
  rintro e w4 ⟨rfl, hn4⟩
  have HN4 : Hid _ := hn4
  clear hn4
  go_wp2_with fail
  refine (show Calls _ _ _ _ _ from HS5.out _ HN4.out).mono ?_
  rintro e w5 ⟨rfl, hn5⟩
  obtain ⟨⟨ka, kc, c3⟩, hbw⟩ := HE.out _ _ _ hn5
  have HBw : Hid _ := hbw
  clear hn5 hbw
  go_wp2_with fail
  go_ret
  exact ⟨rfl, HBw.out⟩
end Go.Proofs.YtabecbjfamphbaaGreatDoor
