/-
  Texts that the proofs of this seat share, joined: Me, He, Gv, Mf, Mg.
-/
import Derived.Test.YtabecbjfamphbaaGreatDoorB14
import Derived.Test.YtabecbjfamphbaaGreatDoorB27
import Derived.Test.YtabecbjfamphbaaGreatDoorB28
import Derived.Test.YtabecbjfamphbaaGreatDoorB09
/- A net in memory: its nodes, how often each refused, the packets on their way. -/
namespace Go.Proofs.YtabecbjfamphbaaGreatDoor
open Go.RowKit Go.Stop Go.Extern

structure MNet where
  nd : Nat → NS
  ref : Nat → Int
  bag : List Pk
structure MLay where
  gm : Nat
  mcap : Nat
  wa : Option Addr
  wcap : Nat
  nb : Nat → Nat
  Fp : Nat → Nat → Prop
structure Msh (w : World) (mb : Nat) (g : Gr) (x : MNet) (M : MLay) : Prop where
  c0 : w.cell? ⟨mb, 0, none⟩ = some (.slice (some ⟨M.gm, 0, none⟩) g.n M.mcap)
  way : Way w mb M.wa M.wcap x.bag
  mty : ∃ cur, w.heap[M.gm]? = some (.cells cur 161 (0, 0))
  mem : ∀ p, p < g.n → w.cell? ⟨M.gm, p * 2, none⟩ = some (.pointer (some ⟨M.nb p, 0, none⟩)) ∧ w.cell? ⟨M.gm, p * 2 + 1, none⟩ = some (.int .i64 (x.ref p))
  node : ∀ p, p < g.n → NodeAt w (M.nb p) g p (x.nd p) (M.Fp p)
  disj : ∀ p q, p < g.n → q < g.n → p ≠ q → ∀ k, M.Fp p k → ¬ M.Fp q k
  sep : ∀ p, p < g.n → ∀ k, M.Fp p k → k ≠ mb ∧ k ≠ M.gm ∧ ¬ onB M.wa k
def MLay.foot (M : MLay) (mb n k : Nat) : Prop := k = mb ∨ k = M.gm ∨ onB M.wa k ∨ ∃ p, p < n ∧ M.Fp p k
theorem Way.alike {w w' : World} {mb : Nat} {wa : Option Addr} {wcap : Nat} {bag : List Pk} {E : Nat → Prop} (h : Way w mb wa wcap bag) (ha : Alike w w' E) (h1 : ¬ E mb) (h2 : ∀ k, onB wa k → ¬ E k) : Way w' mb wa wcap bag := by
  obtain ⟨cur, ht⟩ := h.ty
  refine ⟨ha.cell h.c1 h1, ⟨h.own.1, ?_⟩, cur, (ha.block mb (lt_of_some ht) h1).trans ht⟩
  rcases h.own.2 with h' | ⟨g, cap', cur', he, hg, hh, hr⟩
  · exact Or.inl h'
  · refine Or.inr ⟨g, cap', cur', he, hg, (ha.block g (lt_of_some hh) ?_).trans hh, hr⟩
    cases he
    exact h2 g ⟨0, rfl⟩
theorem Way.lt {w : World} {mb : Nat} {wa : Option Addr} {wcap : Nat} {bag : List Pk} (h : Way w mb wa wcap bag) {k : Nat} (hk : onB wa k) : k < w.heap.size := by
  obtain ⟨off, e⟩ := hk
  rcases h.own.2 with ⟨he, _⟩ | ⟨g, cap', cur', he, _, hh, _⟩
  · rw [e] at he; cases he
  · cases he
    cases e
    exact lt_of_some hh
section
variable {w y z : World} {mb : Nat} {g : Gr} {x : MNet} {M : MLay} {F E : Nat → Prop}
theorem Msh.alike (h : Msh w mb g x M) (ha : Alike w y E) (hE : ∀ k, M.foot mb g.n k → ¬ E k) : Msh y mb g x M := by
  obtain ⟨cur, ht⟩ := h.mty
  have hm : ¬ E M.gm := hE _ (Or.inr (Or.inl rfl))
  exact ⟨ha.cell h.c0 (hE _ (Or.inl rfl)), h.way.alike ha (hE _ (Or.inl rfl)) (fun k hk => hE k (Or.inr (Or.inr (Or.inl hk)))), ⟨cur, (ha.block _ (lt_of_some ht) hm).trans ht⟩, fun p hp => ⟨ha.cell (h.mem p hp).1 hm, ha.cell (h.mem p hp).2 hm⟩, fun p hp => (h.node p hp).alike ha (fun k hk => hE k (Or.inr (Or.inr (Or.inr ⟨p, hp, hk⟩)))), h.disj, h.sep⟩
theorem Msh.low (h : Msh w mb g x M) (hb : Below w.heap.size w y) : Msh y mb g x M := h.alike (Alike.of_below hb (fun _ => False)) (fun _ _ h => h)
theorem Msh.lt (h : Msh w mb g x M) {k : Nat} (hk : M.foot mb g.n k) : k < w.heap.size := by
  rcases hk with rfl | rfl | hk | ⟨p, hp, hk⟩
  · exact lt_of_cell h.c0
  · obtain ⟨_, e⟩ := h.mty; exact lt_of_some e
  · exact h.way.lt hk
  · exact (h.node p hp).lt hk
theorem Msh.ne (h : Msh w mb g x M) : mb ≠ M.gm := by
  obtain ⟨_, e⟩ := h.mty
  obtain ⟨_, e'⟩ := h.way.ty
  exact ty_ne e' e (by decide)
theorem Msh.offm (h : Msh w mb g x M) : ¬ onB M.wa M.gm := by
  obtain ⟨_, e⟩ := h.mty
  exact h.way.off e (by decide)
theorem Msh.offb (h : Msh w mb g x M) : ¬ onB M.wa mb := by
  obtain ⟨_, e⟩ := h.way.ty
  exact h.way.off e (by decide)
/-- The net at mb in y, which began in w with the blocks F. -/
structure MAt (w y : World) (mb : Nat) (g : Gr) (F : Nat → Prop) (M : MLay) (x : MNet) : Prop where
  msh : Msh y mb g x M
  own : ∀ k, M.foot mb g.n k → F k ∨ w.heap.size ≤ k
  rest : Alike w y F
theorem MAt.begin (h : Msh w mb g x M) (hF : ∀ k, M.foot mb g.n k → F k) : MAt w w mb g F M x := ⟨h, fun k hk => Or.inl (hF k hk), Alike.refl _ _⟩
theorem MAt.low (h : MAt w y mb g F M x) (hb : Below y.heap.size y z) : MAt w z mb g F M x := ⟨h.msh.low hb, h.own, h.rest.trans (Alike.of_below hb (fun _ => False)) (fun _ _ h => h.elim)⟩
theorem MAt.then (h : MAt w y mb g F M x) (ha : Alike y z E) (hE : ∀ k, E k → M.foot mb g.n k) : Alike w z F :=
  h.rest.trans ha (fun k hk he => by
    rcases h.own k (hE k he) with h1 | h1
    · exact h1
    · omega)
def MNet.put (x : MNet) (p : Nat) (s : NS) : MNet := { x with nd := fun q => if q = p then s else x.nd q }
def MLay.put (M : MLay) (p : Nat) (F' : Nat → Prop) : MLay := { M with Fp := fun q => if q = p then F' else M.Fp q }
/-- A node did something. -/
theorem MAt.noded (h : MAt w y mb g F M x) {p : Nat} (hp : p < g.n) {s : NS} {v : Value} {ps : List Pk} (hd : Did y z (M.nb p) g p (M.Fp p) s v ps) : ∃ M', MAt w z mb g F M' (x.put p s) ∧ M'.gm = M.gm ∧ M'.wa = M.wa ∧ M'.mcap = M.mcap ∧ M'.nb = M.nb := by
  obtain ⟨⟨F', hn, hF'⟩, ha, _⟩ := hd
  have hm := h.msh
  have hz := h.rest.size
  have hoff : ∀ k, (k = mb ∨ k = M.gm ∨ onB M.wa k) → ¬ M.Fp p k := fun k hk hf => by
    have := hm.sep p hp k hf
    rcases hk with e | e | e
    · exact this.1 e
    · exact this.2.1 e
    · exact this.2.2 e
  have hold : ∀ k, (k = mb ∨ k = M.gm ∨ onB M.wa k) → k < y.heap.size := fun k hk => hm.lt (by
    rcases hk with e | e | e
    · exact Or.inl e
    · exact Or.inr (Or.inl e)
    · exact Or.inr (Or.inr (Or.inl e)))
  have hnew : ∀ k, F' k → ¬ (k = mb ∨ k = M.gm ∨ onB M.wa k) := fun k hk hc => by
    rcases hF' k hk with h1 | h1
    · exact hoff k hc h1
    · have := hold k hc
      omega
  have hget : ∀ q, q ≠ p → (M.put p F').Fp q = M.Fp q := fun q hq => if_neg hq
  have hgetp : (M.put p F').Fp p = F' := if_pos rfl
  obtain ⟨cur, ht⟩ := hm.mty
  refine ⟨M.put p F', ⟨⟨?_, ?_, ?_, ?_, ?_, ?_, ?_⟩, ?_, ?_⟩, rfl, rfl, rfl, rfl⟩
  · exact ha.cell hm.c0 (hoff mb (Or.inl rfl))
  · exact hm.way.alike ha (hoff mb (Or.inl rfl)) (fun k hk => hoff k (Or.inr (Or.inr hk)))
  · exact ⟨cur, (ha.block _ (lt_of_some ht) (hoff _ (Or.inr (Or.inl rfl)))).trans ht⟩
  · intro q hq
    have h1 := hm.mem q hq
    exact ⟨ha.cell h1.1 (hoff _ (Or.inr (Or.inl rfl))), ha.cell h1.2 (hoff _ (Or.inr (Or.inl rfl)))⟩
  · intro q hq
    by_cases e : q = p
    · subst e
      rw [hgetp]
      show NodeAt z (M.nb q) g q (if q = q then s else x.nd q) F'
      rw [if_pos rfl]
      exact hn
    · rw [hget q e]
      show NodeAt z (M.nb q) g q (if q = p then s else x.nd q) _
      rw [if_neg e]
      exact (hm.node q hq).alike ha (fun k hk hf => hm.disj p q hp hq (fun e' => e e'.symm) k hf hk)
  · intro q r hq hr hqr k h1 h2
    by_cases e : q = p
    · subst e
      rw [hgetp] at h1
      rw [hget r (fun e' => hqr e'.symm)] at h2
      rcases hF' k h1 with h3 | h3
      · exact hm.disj q r hp hr hqr k h3 h2
      · have := (hm.node r hr).lt h2
        omega
    · rw [hget q e] at h1
      by_cases e' : r = p
      · subst e'
        rw [hgetp] at h2
        rcases hF' k h2 with h3 | h3
        · exact hm.disj q r hq hr hqr k h1 h3
        · have := (hm.node q hq).lt h1
          omega
      · rw [hget r e'] at h2
        exact hm.disj q r hq hr hqr k h1 h2
  · intro q hq k hk
    by_cases e : q = p
    · subst e
      rw [hgetp] at hk
      have := hnew k hk
      exact ⟨fun e => this (Or.inl e), fun e => this (Or.inr (Or.inl e)), fun e => this (Or.inr (Or.inr e))⟩
    · rw [hget q e] at hk
      exact hm.sep q hq k hk
  · rintro k (e | e | hk | ⟨q, hq, hk⟩)
    · exact h.own k (Or.inl e)
    · exact h.own k (Or.inr (Or.inl e))
    · exact h.own k (Or.inr (Or.inr (Or.inl hk)))
    · by_cases e : q = p
      · subst e
        rw [hgetp] at hk
        rcases hF' k hk with h3 | h3
        · exact h.own k (Or.inr (Or.inr (Or.inr ⟨q, hq, h3⟩)))
        · exact Or.inr (by omega)
      · rw [hget q e] at hk
        exact h.own k (Or.inr (Or.inr (Or.inr ⟨q, hq, hk⟩)))
  · exact h.then ha (fun k hk => Or.inr (Or.inr (Or.inr ⟨p, hp, hk⟩)))
/-- The packets on their way are others. -/
theorem MAt.laid (h : MAt w y mb g F M x) {bag : List Pk} (hl : Laid y z mb M.wa bag) : ∃ M', MAt w z mb g F M' { x with bag := bag } ∧ M'.gm = M.gm ∧ M'.mcap = M.mcap ∧ M'.nb = M.nb ∧ M'.Fp = M.Fp := by
  obtain ⟨⟨wa', wcap', hw, hnew⟩, ha, hc0⟩ := hl
  have hm := h.msh
  have hz := h.rest.size
  have hgm : ¬ (M.gm = mb ∨ onB M.wa M.gm) := fun hc => hc.elim (fun e => hm.ne e.symm) hm.offm
  obtain ⟨cur, ht⟩ := hm.mty
  refine ⟨{ M with wa := wa', wcap := wcap' }, ⟨⟨hc0 _ hm.c0, hw, ⟨cur, (ha.block _ (lt_of_some ht) hgm).trans ht⟩, fun p hp => ⟨ha.cell (hm.mem p hp).1 hgm, ha.cell (hm.mem p hp).2 hgm⟩, fun p hp => (hm.node p hp).alike ha (fun k hk hc => ?_), hm.disj, fun p hp k hk => ?_⟩, ?_, ?_⟩, rfl, rfl, rfl, rfl⟩
  · have := hm.sep p hp k hk
    exact hc.elim this.1 this.2.2
  · have h1 := hm.sep p hp k hk
    refine ⟨h1.1, h1.2.1, fun hc => ?_⟩
    rcases hnew k hc with h2 | h2
    · exact h1.2.2 h2
    · have := (hm.node p hp).lt hk
      omega
  · rintro k (e | e | hk | hk)
    · exact h.own k (Or.inl e)
    · exact h.own k (Or.inr (Or.inl e))
    · rcases hnew k hk with h2 | h2
      · exact h.own k (Or.inr (Or.inr (Or.inl h2)))
      · exact Or.inr (by omega)
    · exact h.own k (Or.inr (Or.inr (Or.inr hk)))
  · exact h.then ha (fun k hk => by
      rcases hk with e | hk
      · exact Or.inl e
      · exact Or.inr (Or.inr (Or.inl hk)))
def MNet.refuse (x : MNet) (p : Nat) : MNet := { x with ref := fun q => if q = p then x.ref p + 1 else x.ref q }
/-- A node refused. -/
theorem MAt.refused (h : MAt w y mb g F M x) {p : Nat} (hp : p < g.n) : MAt w (y.setCell ⟨M.gm, p * 2 + 1, none⟩ (.int .i64 (x.ref p + 1))) mb g F M (x.refuse p) := by
  have hm := h.msh
  have ha := Alike.setCell y ⟨M.gm, p * 2 + 1, none⟩ (.int .i64 (x.ref p + 1))
  obtain ⟨cur, ht⟩ := hm.mty
  have hoth : ∀ i v, i ≠ p * 2 + 1 → y.cell? ⟨M.gm, i, none⟩ = some v → (y.setCell ⟨M.gm, p * 2 + 1, none⟩ (.int .i64 (x.ref p + 1))).cell? ⟨M.gm, i, none⟩ = some v := fun i v hi hv => (World.cell?_setCell_other _ _ _ _ (by intro h; simp only [Addr.mk.injEq] at h; omega)).trans hv
  refine ⟨⟨ha.cell hm.c0 hm.ne, hm.way.alike ha hm.ne (fun k hk e => hm.offm (by have e' : k = M.gm := e; rw [← e']; exact hk)), ⟨_, heap_setCell_same y M.gm _ cur _ _ ht⟩, fun q hq => ⟨hoth _ _ (by omega) (hm.mem q hq).1, ?_⟩, fun q hq => (hm.node q hq).alike ha (fun k hk e => (hm.sep q hq k hk).2.1 e), hm.disj, hm.sep⟩, h.own, h.then ha (fun k e => Or.inr (Or.inl e))⟩
  show _ = some (Value.int .i64 (if q = p then x.ref p + 1 else x.ref q))
  by_cases e : q = p
  · subst e
    rw [if_pos rfl]
    exact World.cell?_setCell_same _ _ _ (hm.mem q hq).2
  · rw [if_neg e]
    exact hoth _ _ (by omega) (hm.mem q hq).2
end
end Go.Proofs.YtabecbjfamphbaaGreatDoor

/- The node's Hear. -/
namespace Go.Proofs.YtabecbjfamphbaaGreatDoor
open Go.RowKit Go.Stop Go.Extern

set_option maxRecDepth 100000 in
set_option maxHeartbeats 4000000 in
theorem nodeHear (A : Nat → Addr) (base b : Nat) (g : Gr) (p : Nat) (s : NS) (F : Nat → Prop) (t : ByteArray) (hg : g.Ok) (hp : p < g.n) (hs : s.Ok g p) (ht : t.size ≤ maxLen) (w : World) (hw : Sl w A base) (hF : ∀ k, F k → base ≤ k) (h : NodeAt w b g p s F) :
    Calls Tryz.prog 96 #[.pointer (some ⟨b, 0, none⟩), .string t] w fun e w' => ∃ v er, e = .returned (.tuple #[v, er]) ∧ IsErrA A er (s.hear g p t).k ∧ Did w w' b g p F (s.hear g p t).s v (s.hear g p t).ps := by
  obtain ⟨G, fs, hN, hst, hkf, hFt⟩ := h.how
  obtain ⟨c0, c1, c2, c3, c4, _, _⟩ := hN.nb
  have hn8 := hg.n.2
  have hsh := hs.short hg
  have HN : Hid _ := hN
  have HW : Hid _ := hw
  have HS : Hid _ := hs
  have HFt : Hid _ := hFt
  have HF : Hid _ := hF
  have HST : Hid _ := hst
  have HKF : Hid _ := hkf
  have HH : Hid _ := h
  clear hN hw hs hFt hF hst hkf h
  go_enter Tryz.func96, Tryz.ntmps96
  go_wp2_with fail
  refine (wireDecode_yes (A 1) (A 5) g.n g.W g.B g.L t w HW.out.sent hg.okG ht).mono ?_
  rintro e w1 ⟨⟨fv, v1, rfl, hfv, hv1, hbad, hgood⟩, hb1⟩
  have HB1 : Hid _ := hb1
  have HH1 : Hid _ := HH.out.low hb1
  have HN1 : Hid _ := HN.out.low hb1
  have HW1 : Hid _ := HW.out.low hb1
  clear c0 c1 c2 c3 c4
  have c4 := HN1.out.nb.c4
  cases hr : rAll g.n g.W g.B g.L t with
  | some x =>
    have HE : Hid (s.hear g p t = ⟨5, [], s⟩) := by show s.hear g p t = _; unfold NS.hear; rw [hr]
    rw [hr] at hv1
    have HV1 : Hid (IsErrA A v1 5) := isF_err hv1
    obtain ⟨ty, y, rfl⟩ := hv1.nil_iff.2 x rfl
    obtain ⟨_, _, _, _, _, _, _, _, _, rfl⟩ := hfv
    clear hv1 hbad hgood hb1
    go_wp2_with fail
    go_ret2
    refine ⟨_, _, rfl, ?_, ?_⟩
    · rw [HE.out]; exact HV1.out
    · rw [HE.out]; exact Did.none HH.out (bthen HB1.out (below1 _ _))
  | none =>
    rw [hr] at hv1
    obtain rfl := hv1.nil_iff.1 rfl
    clear hbad hv1
    obtain ⟨f, hfe, hvec, hnew, hcase⟩ : ∃ f : Fr, fv = Fr.agg g.n f ∧ VecAt w1 g.n f ∧ (∀ k, onB f.ad k → w.heap.size ≤ k) ∧ ((byt t 2 = 2 ∧ f.kind = 2 ∧ f.frm = byt t 4 ∧ f.vec = vecOf t 5 g.n) ∨ (byt t 2 = 1 ∧ f.kind = 1 ∧ f.frm = byt t 4 ∧ f.fm = dataOf g.n t)) := by
      rcases hgood hr with ⟨h2, ⟨gt, hgt, rfl, hrow⟩⟩ | ⟨h2, ⟨gt, hgt, rfl, hrow⟩⟩
      · refine ⟨⟨2, byt t 4, 0, 0, 0, some ⟨gt, 0, none⟩, g.n, vecOf t 5 g.n, ⟨#[]⟩⟩, rfl, ⟨?_, gt, _, rfl, hrow⟩, fun k ⟨off, e⟩ => (by cases e; exact hgt), Or.inl ⟨h2, rfl, rfl, rfl⟩⟩
        have hl : (vecOf t 5 g.n).length = g.n := vecOf_length _ _ _
        exact ⟨hl, fun i hi => ⟨gt, 0, rfl, hrow.lt, by rw [Nat.zero_add]; exact hrow.cell (by omega)⟩⟩
      · refine ⟨⟨1, byt t 4, byt t 5, val t 6 2, val t 8 2, some ⟨gt, 0, none⟩, g.n, vecOf t 10 g.n, t.extract (11 + 2 * g.n) (t.size - 4)⟩, rfl, ⟨?_, gt, _, rfl, hrow⟩, fun k ⟨off, e⟩ => (by cases e; exact hgt), Or.inr ⟨h2, rfl, rfl, rfl⟩⟩
        have hl : (vecOf t 10 g.n).length = g.n := vecOf_length _ _ _
        exact ⟨hl, fun i hi => ⟨gt, 0, rfl, hrow.lt, by rw [Nat.zero_add]; exact hrow.cell (by omega)⟩⟩
    subst hfe
    have HVec : Hid _ := hvec
    have HNew : Hid _ := hnew
    have HCase : Hid _ := hcase
    have HR : Hid _ := hr
    clear hvec hnew hcase hr hgood hb1 hfv
    unfold Fr.agg
    go_wp2_with fail
    have hal := below1 w1 (.cells #[.int .i64 f.kind, .int .i64 f.frm, .int .i64 f.org, .int .i64 f.seq, .int .i64 f.low, .slice f.ad g.n f.cap, .string f.body] 45)
    have HS7 : Hid _ := seven_alloc w1 (.int .i64 f.kind) (.int .i64 f.frm) (.int .i64 f.org) (.int .i64 f.seq) (.int .i64 f.low) (.slice f.ad g.n f.cap) (.string f.body) 45
    have HBX : Hid (Below w.heap.size w _) := bthen HB1.out hal
    have HVX : Hid _ := HVec.out.low hal
    clear hal
    generalize w1.alloc (.cells #[.int .i64 f.kind, .int .i64 f.frm, .int .i64 f.org, .int .i64 f.seq, .int .i64 f.low, .slice f.ad g.n f.cap, .string f.body] 45) = X at *
    have HNX : Hid _ := HN.out.low HBX.out
    have HHX : Hid _ := HH.out.low HBX.out
    have HWX : Hid _ := HW.out.low HBX.out
    refine (checkSender_any A b g.n g.W g.B g.L p G.gv f X HWX.out.s HNX.out.nb).mono ?_
    rintro e w2 ⟨⟨v2, rfl, hv2⟩, hb2⟩
    have HV2 : Hid _ := hv2
    have HB2 : Hid (Below w.heap.size w w2) := bthen HBX.out hb2
    have HS72 : Hid _ := HS7.out.below hb2 HS7.out.z
    have HVX2 : Hid _ := HVX.out.low hb2
    clear hb2
    by_cases hk : selfK p f = 0
    · obtain rfl : v2 = .nilIface := by
        rcases hv2.how with ⟨h, _⟩ | ⟨h, _⟩ | ⟨h, _⟩
        · exact h
        · omega
        · omega
      have hne : f.frm ≠ p ∧ ¬ (f.kind = 1 ∧ f.org = p) := by
        unfold selfK at hk
        split at hk
        · cases hk
        · split at hk
          · cases hk
          · exact ⟨by assumption, by assumption⟩
      have HNE : Hid _ := hne
      clear hv2 hne hk
      have HN2 : Hid _ := HN.out.low HB2.out
      have HH2 : Hid _ := HH.out.low HB2.out
      have HW2 : Hid _ := HW.out.low HB2.out
      clear c4
      obtain ⟨s0, s1, s2, s3, s4, s5, s6, sz⟩ := HS72.out
      rcases HCase.out with ⟨t2, fk, ff, fv⟩ | ⟨t2, fk, ff, ffm⟩
      · have b1 : (f.kind == (1 : Int)) = false := by rw [fk]; rfl
        obtain ⟨hvo, hfl⟩ := state_ok HR.out t2
        have HE : Hid (s.hear g p t = ⟨0, [], s.told g (byt t 4) f.vec⟩) := by
          show s.hear g p t = _
          unfold NS.hear
          rw [HR.out]
          simp only
          rw [if_neg (fun h => HNE.out.1 (by rw [ff, h])), if_neg (by omega), fv]
        have HVO : Hid _ := hvo
        have HFV : Hid _ := fv
        have HFL : Hid _ := hfl
        have HFF : Hid _ := ff
        have hqp : byt t 4 ≠ p := fun h => HNE.out.1 (by rw [ff, h])
        have HOF : Hid (∀ k, onB f.ad k → ¬ F k) := fun k hk hc => by
          have := HNew.out k hk
          have := HN.out.foot_lt ((HFt.out k).1 hc)
          omega
        have HLV : Hid (Calls Tryz.prog 156 #[.pointer (some ⟨b, 0, none⟩), .int .i64 f.frm, .slice f.ad g.n f.cap] w2
          fun e w' => e = .returned (.tuple #[]) ∧ NVw w' G.gv g.n G.rows (vlearn s.vs (byt t 4) f.vec g.n) ∧ Alike w2 w' (fun k => k = G.rows.getD (byt t 4) 0)) := by
          rw [ff]
          exact learnVector_any b g.n g.W g.B g.L p G.gv G.rows s.vs (byt t 4) f.ad f.cap f.vec w2 HN2.out.nb HN2.out.nv hfl HVX2.out.ints hn8 (fun c off hc he => HOF.out c ⟨off, hc⟩ ((HFt.out c).2 (foot_row (by rw [he]; exact mem_rows HN.out.nv hfl))))
        clear fk ff fv hvo
        go_wp2_with fail
        refine HLV.out.mono ?_
        rintro e w3 ⟨rfl, hv3, ha3⟩
        have HT2 : Hid _ := NAt.begin (F := F) HN2.out (fun k hk => (HFt.out k).2 hk)
        have HT3 : Hid _ := HT2.out.viewed hv3 ((Alike.refl w2 _).trans ha3 (fun k _ e => by rw [e]; exact mem_rows HN.out.nv hfl))
        clear hv3 ha3 s0 s1 s2 s3 s4 s5 s6 sz HLV
        go_wp2_with fail
        refine (forget_any b g.n g.W g.B g.L p G.gv G.rows (vlearn s.vs (byt t 4) f.vec g.n) G.sa fs.length G.scap fs w3 HT3.out.nod.nb HT3.out.nod.nv hn8 HT3.out.nod.c6 HT3.out.nod.fr (by have h1 := congrArg List.length HST.out; rw [List.length_map] at h1; omega) (fun a ha => (HS.out.st a.fm (by rw [← HST.out]; exact List.mem_map_of_mem ha)).org)).mono ?_
        rintro e w4 ⟨rfl, hk4⟩
        obtain ⟨G4, hN4⟩ := HT3.out.kept hk4 (fun a ha => Or.inl (List.mem_filter.1 ha).1)
        have HT4 : Hid _ := hN4
        clear hN4 hk4
        go_wp2_with fail
        go_ret2
        refine ⟨_, _, rfl, ?_, ?_⟩
        · rw [HE.out]; exact ⟨Or.inl ⟨rfl, rfl⟩⟩
        · rw [HE.out]
          refine ⟨⟨G4.foot b (keptF (gone (vlearn s.vs (byt t 4) f.vec g.n) g.L g.n) fs), ⟨G4, _, HT4.out.nod, ?_, ?_, fun _ => Iff.rfl⟩, fun k hk => ?_⟩, ?_, Pks.nil _ _⟩
          · rw [keptF_map, HST.out]
            rfl
          · exact fun a ha => HKF.out a (List.mem_filter.1 ha).1
          · rcases HT4.out.own k hk with h | h
            · exact Or.inl h
            · have := HB2.out.size
              exact Or.inr (by omega)
          · exact (Alike.of_below HB2.out F).trans HT4.out.rest (fun k _ h => h)
      · have b1 : (f.kind == (1 : Int)) = true := by rw [fk]; rfl
        obtain ⟨hfo, hfl⟩ := data_ok HR.out t2
        have hoe : f.org = byt t 5 := by
          have : f.fm.org = (dataOf g.n t).org := by rw [ffm]
          exact this
        have HE : Hid (s.hear g p t = if s.newK g p f.fm = 0 then ⟨0, passL (textM g p f.fm) p f.org f.frm g.n, s.got g p f.fm⟩ else ⟨s.newK g p f.fm, [], s⟩) := by
          show s.hear g p t = _
          unfold NS.hear
          rw [HR.out]
          simp only
          rw [if_neg (fun h => HNE.out.1 (by rw [ff, h])), if_pos t2, if_neg (fun h => HNE.out.2 ⟨fk, by rw [hoe, h]⟩), ffm, hoe, ff]
        have HHD : Hid (Calls Tryz.prog 155 #[.pointer (some ⟨b, 0, none⟩), .agg #[.int .i64 f.kind, .int .i64 f.frm, .int .i64 f.org, .int .i64 f.seq, .int .i64 f.low, .slice f.ad g.n f.cap, .string f.body]] w2 _) := hearData_any A base b g p s F f hg hp HS.out w2 HW2.out HF.out HH2.out fk (by rw [ffm]; exact hfo) HVX2.out (fun k hk => by
          have h1 := HNew.out k hk
          have h2 := HN.out.foot_lt (foot_b G b fs)
          have h3 := HF.out b ((HFt.out b).2 (foot_b _ _ _))
          exact ⟨fun hc => by
            have := HN.out.foot_lt ((HFt.out k).1 hc)
            omega, by omega⟩)
        clear fk ff ffm hoe hfo
        go_wp2_with fail
        refine (show Calls _ _ _ _ _ from HHD.out).mono ?_
        rintro e w3 ⟨v3, er, rfl, her, hno, hyes⟩
        have HER : Hid _ := her
        have HNO : Hid _ := hno
        have HYES : Hid _ := hyes
        clear her hno hyes s0 s1 s2 s3 s4 s5 s6 sz
        go_wp2_with fail
        go_ret2
        refine ⟨_, _, rfl, ?_, ?_⟩
        · rw [HE.out]
          have h1 := HER.out
          split
          · rename_i h0
            rw [h0] at h1
            exact h1
          · exact h1
        · rw [HE.out]
          split
          · rename_i h0
            obtain ⟨h1, h2, F', h3, h4⟩ := HYES.out h0
            have hz := HB2.out.size
            refine ⟨⟨F', h3, fun k hk => ?_⟩, (Alike.of_below HB2.out F).trans h2 (fun k hk hE => ?_), h1.mono hz⟩
            · rcases h4 k hk with h | h | h
              · exact Or.inl h
              · exact Or.inr (HNew.out k h)
              · exact Or.inr (by omega)
            · rcases hE with h | h
              · exact h
              · have := HNew.out k h
                omega
          · rename_i h0
            obtain ⟨h1, h2⟩ := HNO.out h0
            rw [h1]
            exact Did.none HH.out (bthen HB2.out h2)
    · have hk6 : selfK p f = 6 := by
        unfold selfK at hk ⊢
        split
        · rfl
        · rename_i h1
          rw [if_neg h1] at hk
          split
          · rfl
          · rename_i h2
            rw [if_neg h2] at hk
            exact absurd rfl hk
      have HE : Hid (s.hear g p t = ⟨6, [], s⟩) := by
        show s.hear g p t = _
        unfold NS.hear
        rw [HR.out]
        simp only
        unfold selfK at hk
        by_cases h4 : byt t 4 = p
        · rw [if_pos h4]
        · rw [if_neg h4]
          rcases HCase.out with ⟨t2, fk, ff, fv⟩ | ⟨t2, fk, ff, ffm⟩
          · rw [if_neg (fun h => h4 (by omega)), if_neg (fun h => by omega)] at hk
            exact absurd rfl hk
          · have hoe : f.org = byt t 5 := by
              have : f.fm.org = (dataOf g.n t).org := by rw [ffm]
              exact this
            by_cases h5 : byt t 5 = p
            · rw [if_pos t2, if_pos h5]
            · rw [if_neg (fun h => h4 (by omega)), if_neg (fun h => by omega)] at hk
              exact absurd rfl hk
      obtain ⟨ty, y, rfl⟩ : ∃ t x, v2 = .iface t x := by
        rcases hv2.how with ⟨_, h⟩ | ⟨_, _, _, h⟩ | ⟨_, _, _, _, h⟩
        · exact absurd h hk
        · exact ⟨_, _, h⟩
        · exact ⟨_, _, h⟩
      rw [hk6] at HV2
      clear hv2 hk hk6
      go_wp2_with fail
      go_ret2
      refine ⟨_, _, rfl, ?_, ?_⟩
      · rw [HE.out]; exact HV2.out
      · rw [HE.out]; exact Did.none HH.out HB2.out
end Go.Proofs.YtabecbjfamphbaaGreatDoor

/- The node's View; group.Has. -/
namespace Go.Proofs.YtabecbjfamphbaaGreatDoor
open Go.RowKit Go.Stop Go.Extern

/-- 0: there is such a node. -/
def viewK (n : Nat) (q : Int) : Nat := if decide (0 ≤ q ∧ q < n) then 0 else 1
def isNode (n : Nat) (q : Int) : Bool := decide (0 ≤ q ∧ q < n)
theorem row_mono {w : World} {b b' : Nat} {t : TypeId} {c : Nat} {v : Value} {n : Nat} {xs : List Value} (h : w.ownsRow b t c v n xs) (hb : b' ≤ b) : w.ownsRow b' t c v n xs := by
  refine ⟨h.1, ?_⟩
  rcases h.2 with h2 | ⟨g, cap, cur, hv, hg, r⟩
  · exact Or.inl h2
  · exact Or.inr ⟨g, cap, cur, hv, Nat.le_trans hb hg, r⟩
/-- The answer of View. -/
def NS.view (g : Gr) (s : NS) (q : Int) : List Int := if isNode g.n q then s.vs.getD q.toNat [] else []
set_option maxRecDepth 100000 in
set_option maxHeartbeats 1000000 in
theorem nodeView_any (A : Nat → Addr) (base b : Nat) (g : Gr) (p : Nat) (s : NS) (F : Nat → Prop) (q : Int) (hg : g.Ok) (hs : s.Ok g p) (w : World) (hw : Sl w A base) (h : NodeAt w b g p s F) :
    Calls Tryz.prog 176 #[.pointer (some ⟨b, 0, none⟩), .int .i64 q] w fun e w' => (∃ v er, e = .returned (.tuple #[v, er]) ∧ IsErrA A er (viewK g.n q) ∧ w'.ownsRow w.heap.size 3 1 v (s.view g q).length (irow (s.view g q))) ∧ Below w.heap.size w w' := by
  obtain ⟨G, fs, hN, hst, hkf, hFt⟩ := h.how
  have hn := hg.n
  obtain ⟨c0, c1, c2, c3, c4, c5, _⟩ := hN.nb
  have HW : Hid _ := hw
  have HVE : Hid (s.view g q = if isNode g.n q then s.vs.getD q.toNat [] else []) := rfl
  have HVK : Hid (viewK g.n q = if isNode g.n q then 0 else 1) := rfl
  have HN : Hid _ := hN
  have HS : Hid _ := hs
  clear hN hFt h hst hs hw hkf
  go_enter Tryz.func176, Tryz.ntmps176
  go_wp2_with fail
  refine (has_any g.n g.W g.B g.L q w).mono ?_
  rintro e w1 ⟨rfl, hb1⟩
  have HB1 : Hid _ := hb1
  have HN1 : Hid _ := HN.out.low hb1
  have HW1 : Hid _ := HW.out.low hb1
  clear c0 c1 c2 c3 c4 c5 hb1
  have c5 := HN1.out.nb.c5
  by_cases hq : isNode g.n q = true
  · have hq2 := of_decide_eq_true hq
    obtain ⟨k, rfl⟩ : ∃ k : Nat, q = k := ⟨q.toNat, by omega⟩
    have hk : k < g.n := by omega
    have hki : (k : Int) < (g.n : Int) := by omega
    have hrow := HN1.out.nv.row k hk
    have HV2 : Hid (s.view g k = s.vs.getD k []) := by show s.view g k = _; rw [HVE.out, if_pos hq]; rfl
    have HCl : Hid (Calls Tryz.prog 101 #[.slice (some ⟨G.rows.getD k 0, 0, none⟩) g.n g.n] w1 fun e w' => (∃ v, e = .returned v ∧ w'.ownsRow w1.heap.size 3 1 v g.n (irow (s.vs.getD k []))) ∧ Below w1.heap.size w1 w') := cloneInts_any ⟨G.rows.getD k 0, 0, none⟩ g.n g.n (s.vs.getD k []) w1 (show Ints w1 _ _ _ from ⟨HN1.out.nv.elen k hk, fun i hi => ⟨_, 0, rfl, (HN1.out.nv.each k hk).lt, by rw [Nat.zero_add]; exact HN1.out.nv.cell hk hi⟩⟩) (by omega) (by omega)
    have HEl : Hid ((s.vs.getD k []).length = g.n) := HN1.out.nv.elen k hk
    rw [decide_eq_true hq2]
    clear hq2
    generalize G.rows.getD k 0 = gk at *
    go_wp2_with fail
    refine HCl.out.mono ?_
    rintro e w2 ⟨⟨v, rfl, ho⟩, hb⟩
    have HO : Hid _ := ho
    have HB2 : Hid _ := bthen HB1.out hb
    have HZ : Hid (w.heap.size ≤ w1.heap.size) := HB1.out.size
    obtain ⟨av, cv, hsh⟩ := rowShaped ho
    subst hsh
    clear ho hb
    go_wp2_with fail
    go_ret2
    refine ⟨⟨_, _, rfl, ?_, ?_⟩, HB2.out⟩
    · rw [HVK.out, if_pos hq]
      exact ⟨Or.inl ⟨rfl, rfl⟩⟩
    · rw [HV2.out, HEl.out]
      exact row_mono HO.out HZ.out
  · have hqf : isNode g.n q = false := by simpa using hq
    rw [show decide (0 ≤ q ∧ q < (g.n : Int)) = false from hqf]
    have e1 : w1.cell? ⟨0, 0, none⟩ = some (.iface 298 (.pointer (some (A 1)))) := HW1.out.s.c 1 (by decide) (by decide)
    go_wp2_with (go_at_call 90; refine (nodeRefuse_any _ _ _).mono ?_; rintro e w' ⟨rfl, rfl⟩)
    go_ret2
    refine ⟨⟨_, _, rfl, ?_, ?_⟩, HB1.out⟩
    · rw [HVK.out, hqf]
      exact ⟨Or.inr (Or.inl ⟨by decide, by decide, _, rfl⟩)⟩
    · rw [HVE.out, hqf]
      exact World.ownsRow_nil _ _ _ _
end Go.Proofs.YtabecbjfamphbaaGreatDoor

/- The net's calls: member, Say, Tick. -/
namespace Go.Proofs.YtabecbjfamphbaaGreatDoor
open Go.RowKit Go.Stop Go.Extern

structure MeshAt (w : World) (mb : Nat) (g : Gr) (x : MNet) (F : Nat → Prop) : Prop where
  how : ∃ M, Msh w mb g x M ∧ ∀ k, F k ↔ M.foot mb g.n k
theorem MeshAt.alike {w w' : World} {mb : Nat} {g : Gr} {x : MNet} {F E : Nat → Prop} (h : MeshAt w mb g x F) (ha : Alike w w' E) (hE : ∀ k, F k → ¬ E k) : MeshAt w' mb g x F := by
  obtain ⟨M, h1, h2⟩ := h.how
  exact ⟨M, h1.alike ha (fun k hk => hE k ((h2 k).2 hk)), h2⟩
theorem MeshAt.low {w w' : World} {mb : Nat} {g : Gr} {x : MNet} {F : Nat → Prop} (h : MeshAt w mb g x F) (hb : Below w.heap.size w w') : MeshAt w' mb g x F := h.alike (Alike.of_below hb (fun _ => False)) (fun _ _ h => h)
theorem MeshAt.lt {w : World} {mb : Nat} {g : Gr} {x : MNet} {F : Nat → Prop} (h : MeshAt w mb g x F) {k : Nat} (hk : F k) : k < w.heap.size := by
  obtain ⟨M, h1, h2⟩ := h.how
  exact h1.lt ((h2 k).1 hk)
/-- A call of the net at mb, that owned F: what it is behind it; all else as it was. -/
structure MDid (w w' : World) (mb : Nat) (g : Gr) (F : Nat → Prop) (x : MNet) : Prop where
  net : ∃ F', MeshAt w' mb g x F' ∧ ∀ k, F' k → F k ∨ w.heap.size ≤ k
  rest : Alike w w' F
theorem MAt.done {w y : World} {mb : Nat} {g : Gr} {F : Nat → Prop} {M : MLay} {x : MNet} (h : MAt w y mb g F M x) : MDid w y mb g F x := ⟨⟨M.foot mb g.n, ⟨M, h.msh, fun _ => Iff.rfl⟩, h.own⟩, h.rest⟩
theorem MDid.none {w w' : World} {mb : Nat} {g : Gr} {F : Nat → Prop} {x : MNet} (h : MeshAt w mb g x F) (hb : Below w.heap.size w w') : MDid w w' mb g F x := ⟨⟨F, h.low hb, fun _ h => Or.inl h⟩, Alike.of_below hb _⟩
theorem MDid.low {w w1 w2 : World} {mb : Nat} {g : Gr} {F : Nat → Prop} {x : MNet} (h : MDid w w1 mb g F x) (hb : Below w1.heap.size w1 w2) : MDid w w2 mb g F x := by
  obtain ⟨⟨F', h1, h2⟩, h3⟩ := h
  exact ⟨⟨F', h1.low hb, h2⟩, h3.trans (Alike.of_below hb (fun _ => False)) (fun _ _ h => h.elim)⟩
theorem MDid.sl {w w' : World} {mb : Nat} {g : Gr} {F : Nat → Prop} {x : MNet} {A : Nat → Addr} {base : Nat} (h : MDid w w' mb g F x) (hw : Sl w A base) (hF : ∀ k, F k → base ≤ k) : Sl w' A base := hw.alike h.rest (fun k hk hc => by have := hF k hc; omega)
/-- A net that may be. -/
structure MNet.Ok (g : Gr) (x : MNet) : Prop where
  nd : ∀ p, p < g.n → (x.nd p).Ok g p
  bag : ∀ t ∈ x.bag, (∃ q : Nat, t.to = q ∧ q < g.n) ∧ t.text.size ≤ 100
  ref : ∀ p, p < g.n → 0 ≤ x.ref p ∧ x.ref p ≤ 1000000000000
  len : x.bag.length ≤ 100000000000

set_option maxRecDepth 100000 in
set_option maxHeartbeats 1000000 in
theorem member_any (A : Nat → Addr) (base mb : Nat) (g : Gr) (x : MNet) (M : MLay) (p : Int) (w : World) (hw : Sl w A base) (h : Msh w mb g x M) :
    Calls Tryz.prog 98 #[.pointer (some ⟨mb, 0, none⟩), .int .i64 p] w fun e w' => (∃ v er, e = .returned (.tuple #[v, er]) ∧ IsErrA A er (viewK g.n p) ∧ (isNode g.n p = true → v = .pointer (some ⟨M.gm, p.toNat * 2, none⟩) ∧ er = .nilIface) ∧ (isNode g.n p = false → v = .pointer none ∧ ∃ t y, er = .iface t y)) ∧ Below w.heap.size w w' := by
  have c0 := h.c0
  have e1 : w.cell? ⟨0, 0, none⟩ = some (.iface 298 (.pointer (some (A 1)))) := hw.s.c 1 (by decide) (by decide)
  have HVK : Hid (viewK g.n p = if decide (0 ≤ p ∧ p < g.n) then 0 else 1) := rfl
  have HIN : Hid (isNode g.n p = decide (0 ≤ p ∧ p < g.n)) := rfl
  clear h hw
  generalize viewK g.n p = K at *
  generalize isNode g.n p = b at *
  go_enter Tryz.func98, Tryz.ntmps98
  by_cases h0 : 0 ≤ p
  · obtain ⟨q, rfl⟩ : ∃ q : Nat, p = q := ⟨p.toNat, by omega⟩
    by_cases h1 : (q : Int) < (g.n : Int)
    · have HB : Hid (b = true ∧ K = 0) := by
        have h2 := HVK.out
        rw [decide_eq_true ⟨h0, h1⟩] at h2
        exact ⟨HIN.out.trans (decide_eq_true ⟨h0, h1⟩), h2⟩
      clear HVK HIN
      go_wp2_with fail
      go_ret2
      refine ⟨⟨_, _, rfl, ?_, fun _ => ⟨rfl, rfl⟩, fun h => ?_⟩, Below.refl _ _⟩
      · rw [HB.out.2]
        exact ⟨Or.inl ⟨rfl, rfl⟩⟩
      · rw [HB.out.1] at h
        cases h
    · have HB : Hid (b = false ∧ K = 1) := by
        have h2 := HVK.out
        rw [decide_eq_false (fun h => h1 h.2)] at h2
        exact ⟨HIN.out.trans (decide_eq_false (fun h => h1 h.2)), h2⟩
      clear HVK HIN
      go_wp2_with fail
      go_quiet (fail)
      go_wp2_with fail
      go_ret2
      refine ⟨⟨_, _, rfl, ?_, fun h => ?_, fun _ => ⟨rfl, _, _, rfl⟩⟩, below_drewN (Below.refl _ _) _⟩
      · rw [HB.out.2]
        exact ⟨Or.inr (Or.inl ⟨by decide, by decide, _, rfl⟩)⟩
      · rw [HB.out.1] at h
        cases h
  · have HB : Hid (b = false ∧ K = 1) := by
      have h2 := HVK.out
      rw [decide_eq_false (fun h => h0 h.1)] at h2
      exact ⟨HIN.out.trans (decide_eq_false (fun h => h0 h.1)), h2⟩
    clear HVK HIN
    go_wp2_with fail
    go_quiet (fail)
    go_wp2_with fail
    go_ret2
    refine ⟨⟨_, _, rfl, ?_, fun h => ?_, fun _ => ⟨rfl, _, _, rfl⟩⟩, below_drewN (Below.refl _ _) _⟩
    · rw [HB.out.2]
      exact ⟨Or.inr (Or.inl ⟨by decide, by decide, _, rfl⟩)⟩
    · rw [HB.out.1] at h
      cases h

theorem say_few (g : Gr) (p : Nat) (s : NS) (body : ByteArray) : (s.say g p body).ps.length ≤ g.n := by
  unfold NS.say
  split
  · exact passL_length _ _ _ _ _
  · exact Nat.zero_le _
/-- The net when a node says. -/
def MNet.say (g : Gr) (x : MNet) (p : Nat) (body : ByteArray) : MNet := { x.put p ((x.nd p).say g p body).s with bag := x.bag ++ ((x.nd p).say g p body).ps }
set_option maxRecDepth 100000 in
set_option maxHeartbeats 1000000 in
theorem meshSay_yes (A : Nat → Addr) (base mb : Nat) (g : Gr) (x : MNet) (F : Nat → Prop) (p : Nat) (body : ByteArray) (hg : g.Ok) (hp : p < g.n) (hx : x.Ok g) (w : World) (hw : Sl w A base) (hF : ∀ k, F k → base ≤ k) (h : MeshAt w mb g x F) :
    Calls Tryz.prog 77 #[.pointer (some ⟨mb, 0, none⟩), .int .i64 p, .string body] w fun e w' => ∃ er, e = .returned (.tuple #[.int .i64 ((x.nd p).say g p body).q, er]) ∧ IsErrA A er ((x.nd p).say g p body).k ∧ MDid w w' mb g F (x.say g p body) := by
  obtain ⟨M, hM, hFt⟩ := h.how
  have HM : Hid _ := hM
  have HW : Hid _ := hw
  have HF : Hid _ := hF
  have HFt : Hid _ := hFt
  have HX : Hid _ := hx
  have hin : isNode g.n p = true := decide_eq_true ⟨by omega, by omega⟩
  have HPk : Hid (((x.nd p).say g p body).ps.length ≤ 8) := Nat.le_trans (say_few _ _ _ _) hg.n.2
  have HXE : Hid (x.say g p body = { x.put p ((x.nd p).say g p body).s with bag := x.bag ++ ((x.nd p).say g p body).ps }) := rfl
  have HSa : Hid _ := fun w1 hb1 => nodeSay A base (M.nb p) g p (x.nd p) (M.Fp p) body hg hp (hx.nd p hp) w1 (hw.low hb1) (fun k hk => hF k ((hFt k).2 (Or.inr (Or.inr (Or.inr ⟨p, hp, hk⟩))))) ((hM.low hb1).node p hp)
  generalize x.say g p body = x' at *
  generalize (x.nd p).say g p body = R at *
  clear h hw hF hFt hx hM
  go_enter Tryz.func77, Tryz.ntmps77
  go_wp2_with fail
  refine (member_any A base mb g x M p w HW.out HM.out).mono ?_
  rintro e w1 ⟨⟨v1, er1, rfl, _, hyes, _⟩, hb1⟩
  obtain ⟨rfl, rfl⟩ := hyes hin
  have HB1 : Hid _ := hb1
  have HM1 : Hid _ := HM.out.low hb1
  clear hyes hb1
  obtain ⟨m0, m1⟩ := HM1.out.mem p hp
  rw [Int.toNat_natCast]
  have HLn : Hid _ := HX.out.len
  have HT1 : Hid _ := (MAt.begin (F := F) HM.out (fun k hk => (HFt.out k).2 hk)).low HB1.out
  have HSy : Hid _ := HSa.out w1 HB1.out
  clear hin
  go_wp2_with fail
  refine (show Calls _ _ _ _ _ from HSy.out).mono ?_
  rintro e w2 ⟨v, er, rfl, her, hd⟩
  have HE : Hid _ := her
  have HD : Hid _ := hd
  obtain ⟨M2, hT2, eg, ew, ec, en⟩ := HT1.out.noded hp hd
  have HT2 : Hid _ := hT2
  obtain ⟨av, cv, hsh⟩ := rowShaped hd.pks.own
  subst hsh
  have HNe : Hid (∀ k, (Value.slice av R.ps.length cv).ownBlock = some k → ¬ onB M2.wa k) := fun k hk hc => by
    have h1 := hd.pks.block k hk
    rw [ew] at hc
    have h2 := HM1.out.way.lt hc
    omega
  clear her hd hT2 eg ew ec en m0 m1 HSy
  go_wp2_with fail
  refine (lay_any mb M2.wa M2.wcap x.bag R.ps _ w1.heap.size w2 HT2.out.msh.way HD.out.pks HNe.out (by have := HPk.out; have := HLn.out; omega)).mono ?_
  rintro e w3 ⟨rfl, hl⟩
  obtain ⟨M3, hT3, _⟩ := HT2.out.laid hl
  have HT3 : Hid _ := hT3
  clear hl hT3
  go_wp2_with fail
  go_ret2
  refine ⟨_, rfl, HE.out, ?_⟩
  rw [HXE.out]
  exact HT3.out.done
end Go.Proofs.YtabecbjfamphbaaGreatDoor

/- The net's calls of a node: Tick, Heard, Store, Refused; those of no node. -/
namespace Go.Proofs.YtabecbjfamphbaaGreatDoor
open Go.RowKit Go.Stop Go.Extern

set_option maxRecDepth 100000 in
set_option maxHeartbeats 1000000 in
theorem meshSay_no (A : Nat → Addr) (base mb : Nat) (g : Gr) (x : MNet) (F : Nat → Prop) (p : Int) (body : ByteArray) (hp : isNode g.n p = false) (w : World) (hw : Sl w A base) (h : MeshAt w mb g x F) :
    Calls Tryz.prog 77 #[.pointer (some ⟨mb, 0, none⟩), .int .i64 p, .string body] w fun e w' => (∃ er, e = .returned (.tuple #[.int .i64 0, er]) ∧ IsErrA A er 1) ∧ Below w.heap.size w w' := by
  obtain ⟨M, hM, hFt⟩ := h.how
  have HK : Hid (viewK g.n p = 1) := by
    show viewK g.n p = 1
    unfold viewK
    rw [show decide (0 ≤ p ∧ p < (g.n : Int)) = false from hp]
    rfl
  have HMe : Hid _ := member_any A base mb g x M p w hw hM
  clear h hw hFt hM
  go_enter Tryz.func77, Tryz.ntmps77
  go_wp2_with fail
  refine (show Calls _ _ _ _ _ from HMe.out).mono ?_
  rintro e w1 ⟨⟨v1, er1, rfl, her, _, hno⟩, hb1⟩
  obtain ⟨rfl, t, y, rfl⟩ := hno hp
  rw [HK.out] at her
  have HE : Hid _ := her
  have HB1 : Hid _ := hb1
  clear hno hb1 her HMe
  go_wp2_with fail
  go_ret2
  exact ⟨⟨_, rfl, HE.out⟩, HB1.out⟩
set_option maxRecDepth 100000 in
set_option maxHeartbeats 1000000 in
theorem meshTick_no (A : Nat → Addr) (base mb : Nat) (g : Gr) (x : MNet) (F : Nat → Prop) (p : Int) (hp : isNode g.n p = false) (w : World) (hw : Sl w A base) (h : MeshAt w mb g x F) :
    Calls Tryz.prog 79 #[.pointer (some ⟨mb, 0, none⟩), .int .i64 p] w fun e w' => (∃ er, e = .returned er ∧ IsErrA A er 1) ∧ Below w.heap.size w w' := by
  obtain ⟨M, hM, hFt⟩ := h.how
  have HK : Hid (viewK g.n p = 1) := by
    show viewK g.n p = 1
    unfold viewK
    rw [show decide (0 ≤ p ∧ p < (g.n : Int)) = false from hp]
    rfl
  have HMe : Hid _ := member_any A base mb g x M p w hw hM
  clear h hw hFt hM
  go_enter Tryz.func79, Tryz.ntmps79
  go_wp2_with fail
  refine (show Calls _ _ _ _ _ from HMe.out).mono ?_
  rintro e w1 ⟨⟨v1, er1, rfl, her, _, hno⟩, hb1⟩
  obtain ⟨rfl, t, y, rfl⟩ := hno hp
  rw [HK.out] at her
  have HE : Hid _ := her
  have HB1 : Hid _ := hb1
  clear hno hb1 her HMe
  go_wp2_with fail
  go_ret
  exact ⟨⟨_, rfl, HE.out⟩, HB1.out⟩
set_option maxRecDepth 100000 in
set_option maxHeartbeats 1000000 in
theorem meshHeard_no (A : Nat → Addr) (base mb : Nat) (g : Gr) (x : MNet) (F : Nat → Prop) (p : Int) (hp : isNode g.n p = false) (w : World) (hw : Sl w A base) (h : MeshAt w mb g x F) :
    Calls Tryz.prog 61 #[.pointer (some ⟨mb, 0, none⟩), .int .i64 p] w fun e w' => (∃ er, e = .returned (.tuple #[.slice none 0 0, er]) ∧ IsErrA A er 1) ∧ Below w.heap.size w w' := by
  obtain ⟨M, hM, hFt⟩ := h.how
  have HK : Hid (viewK g.n p = 1) := by
    show viewK g.n p = 1
    unfold viewK
    rw [show decide (0 ≤ p ∧ p < (g.n : Int)) = false from hp]
    rfl
  have HMe : Hid _ := member_any A base mb g x M p w hw hM
  clear h hw hFt hM
  go_enter Tryz.func61, Tryz.ntmps61
  go_wp2_with fail
  refine (show Calls _ _ _ _ _ from HMe.out).mono ?_
  rintro e w1 ⟨⟨v1, er1, rfl, her, _, hno⟩, hb1⟩
  obtain ⟨rfl, t, y, rfl⟩ := hno hp
  rw [HK.out] at her
  have HE : Hid _ := her
  have HB1 : Hid _ := hb1
  clear hno hb1 her HMe
  go_wp2_with fail
  go_ret2
  exact ⟨⟨_, rfl, HE.out⟩, HB1.out⟩
set_option maxRecDepth 100000 in
set_option maxHeartbeats 1000000 in
theorem meshStore_no (A : Nat → Addr) (base mb : Nat) (g : Gr) (x : MNet) (F : Nat → Prop) (p : Int) (hp : isNode g.n p = false) (w : World) (hw : Sl w A base) (h : MeshAt w mb g x F) :
    Calls Tryz.prog 63 #[.pointer (some ⟨mb, 0, none⟩), .int .i64 p] w fun e w' => (∃ er, e = .returned (.tuple #[.slice none 0 0, er]) ∧ IsErrA A er 1) ∧ Below w.heap.size w w' := by
  obtain ⟨M, hM, hFt⟩ := h.how
  have HK : Hid (viewK g.n p = 1) := by
    show viewK g.n p = 1
    unfold viewK
    rw [show decide (0 ≤ p ∧ p < (g.n : Int)) = false from hp]
    rfl
  have HMe : Hid _ := member_any A base mb g x M p w hw hM
  clear h hw hFt hM
  go_enter Tryz.func63, Tryz.ntmps63
  go_wp2_with fail
  refine (show Calls _ _ _ _ _ from HMe.out).mono ?_
  rintro e w1 ⟨⟨v1, er1, rfl, her, _, hno⟩, hb1⟩
  obtain ⟨rfl, t, y, rfl⟩ := hno hp
  rw [HK.out] at her
  have HE : Hid _ := her
  have HB1 : Hid _ := hb1
  clear hno hb1 her HMe
  go_wp2_with fail
  go_ret2
  exact ⟨⟨_, rfl, HE.out⟩, HB1.out⟩
set_option maxRecDepth 100000 in
set_option maxHeartbeats 1000000 in
theorem meshRefused_no (A : Nat → Addr) (base mb : Nat) (g : Gr) (x : MNet) (F : Nat → Prop) (p : Int) (hp : isNode g.n p = false) (w : World) (hw : Sl w A base) (h : MeshAt w mb g x F) :
    Calls Tryz.prog 142 #[.pointer (some ⟨mb, 0, none⟩), .int .i64 p] w fun e w' => (∃ er, e = .returned (.tuple #[.int .i64 0, er]) ∧ IsErrA A er 1) ∧ Below w.heap.size w w' := by
  obtain ⟨M, hM, hFt⟩ := h.how
  have HK : Hid (viewK g.n p = 1) := by
    show viewK g.n p = 1
    unfold viewK
    rw [show decide (0 ≤ p ∧ p < (g.n : Int)) = false from hp]
    rfl
  have HMe : Hid _ := member_any A base mb g x M p w hw hM
  clear h hw hFt hM
  go_enter Tryz.func142, Tryz.ntmps142
  go_wp2_with fail
  refine (show Calls _ _ _ _ _ from HMe.out).mono ?_
  rintro e w1 ⟨⟨v1, er1, rfl, her, _, hno⟩, hb1⟩
  obtain ⟨rfl, t, y, rfl⟩ := hno hp
  rw [HK.out] at her
  have HE : Hid _ := her
  have HB1 : Hid _ := hb1
  clear hno hb1 her HMe
  go_wp2_with fail
  go_ret2
  exact ⟨⟨_, rfl, HE.out⟩, HB1.out⟩
theorem tick_few {g : Gr} {p : Nat} {s : NS} (hg : g.Ok) (hs : s.Ok g p) : (s.tick g p).length ≤ 520 := by
  have h1 := tickTo_length g p s (hs.short hg) g.n
  have h2 := hg.n.2
  unfold NS.tick
  omega
/-- The net when a node ticks. -/
def MNet.tick (g : Gr) (x : MNet) (p : Nat) : MNet := { x with bag := x.bag ++ (x.nd p).tick g p }
set_option maxRecDepth 100000 in
set_option maxHeartbeats 1000000 in
theorem meshTick_yes (A : Nat → Addr) (base mb : Nat) (g : Gr) (x : MNet) (F : Nat → Prop) (p : Nat) (hg : g.Ok) (hp : p < g.n) (hx : x.Ok g) (w : World) (hw : Sl w A base) (h : MeshAt w mb g x F) :
    Calls Tryz.prog 79 #[.pointer (some ⟨mb, 0, none⟩), .int .i64 p] w fun e w' => e = .returned .nilIface ∧ MDid w w' mb g F (x.tick g p) := by
  obtain ⟨M, hM, hFt⟩ := h.how
  have HM : Hid _ := hM
  have HMe : Hid _ := member_any A base mb g x M p w hw hM
  have hin : isNode g.n p = true := decide_eq_true ⟨by omega, by omega⟩
  have HFt : Hid _ := hFt
  have HTk : Hid _ := fun w1 hb1 => nodeTick_any A base (M.nb p) g p (x.nd p) (M.Fp p) hg hp (hx.nd p hp) w1 (hw.low hb1) ((hM.low hb1).node p hp)
  have HPk : Hid (((x.nd p).tick g p).length ≤ 520) := tick_few hg (hx.nd p hp)
  have HLn : Hid _ := hx.len
  have HXE : Hid (x.tick g p = { x with bag := x.bag ++ (x.nd p).tick g p }) := rfl
  generalize x.tick g p = x' at *
  generalize (x.nd p).tick g p = ps at *
  clear h hw hFt hx hM
  go_enter Tryz.func79, Tryz.ntmps79
  go_wp2_with fail
  refine (show Calls _ _ _ _ _ from HMe.out).mono ?_
  rintro e w1 ⟨⟨v1, er1, rfl, _, hyes, _⟩, hb1⟩
  obtain ⟨rfl, rfl⟩ := hyes hin
  have HB1 : Hid _ := hb1
  have HM1 : Hid _ := HM.out.low hb1
  clear hyes hb1 HMe hin
  obtain ⟨m0, m1⟩ := HM1.out.mem p hp
  rw [Int.toNat_natCast]
  have HTy : Hid _ := HTk.out w1 HB1.out
  go_wp2_with fail
  refine (show Calls _ _ _ _ _ from HTy.out).mono ?_
  rintro e w2 ⟨⟨v, rfl, hps⟩, hb2⟩
  have HT2 : Hid _ := (MAt.begin (F := F) HM.out (fun k hk => (HFt.out k).2 hk)).low (bthen HB1.out hb2)
  have HP : Hid _ := hps
  obtain ⟨av, cv, hsh⟩ := rowShaped hps.own
  subst hsh
  have HNe : Hid (∀ k, (Value.slice av ps.length cv).ownBlock = some k → ¬ onB M.wa k) := fun k hk hc => by
    have h1 := hps.block k hk
    have h2 := HM1.out.way.lt hc
    omega
  clear hps hb2 m0 m1 HTy
  go_wp2_with fail
  refine (lay_any mb M.wa M.wcap x.bag ps _ w1.heap.size w2 HT2.out.msh.way HP.out HNe.out (by have := HPk.out; have := HLn.out; omega)).mono ?_
  rintro e w3 ⟨rfl, hl⟩
  obtain ⟨M3, hT3, _⟩ := HT2.out.laid hl
  have HT3 : Hid _ := hT3
  clear hl hT3
  go_wp2_with fail
  go_ret
  refine ⟨rfl, ?_⟩
  rw [HXE.out]
  exact HT3.out.done
set_option maxRecDepth 100000 in
set_option maxHeartbeats 1000000 in
theorem meshHeard_yes (A : Nat → Addr) (base mb : Nat) (g : Gr) (x : MNet) (F : Nat → Prop) (p : Nat) (hg : g.Ok) (hp : p < g.n) (hx : x.Ok g) (w : World) (hw : Sl w A base) (h : MeshAt w mb g x F) :
    Calls Tryz.prog 61 #[.pointer (some ⟨mb, 0, none⟩), .int .i64 p] w fun e w' => (∃ v, e = .returned (.tuple #[v, .nilIface]) ∧ Wrd w' w.heap.size v (x.nd p).hs) ∧ Below w.heap.size w w' := by
  obtain ⟨M, hM, hFt⟩ := h.how
  have HM : Hid _ := hM
  have HMe : Hid _ := member_any A base mb g x M p w hw hM
  have hin : isNode g.n p = true := decide_eq_true ⟨by omega, by omega⟩
  have HC : Hid _ := fun w1 hb1 => nodeHeard_any (M.nb p) g p (x.nd p) (M.Fp p) hg hp (hx.nd p hp) w1 ((hM.low hb1).node p hp)
  generalize (x.nd p).hs = ws at *
  clear h hw hFt hx hM
  go_enter Tryz.func61, Tryz.ntmps61
  go_wp2_with fail
  refine (show Calls _ _ _ _ _ from HMe.out).mono ?_
  rintro e w1 ⟨⟨v1, er1, rfl, _, hyes, _⟩, hb1⟩
  obtain ⟨rfl, rfl⟩ := hyes hin
  have HB1 : Hid _ := hb1
  have HM1 : Hid _ := HM.out.low hb1
  clear hyes hb1 HMe hin
  obtain ⟨m0, m1⟩ := HM1.out.mem p hp
  rw [Int.toNat_natCast]
  have HTy : Hid _ := HC.out w1 HB1.out
  go_wp2_with fail
  refine (show Calls _ _ _ _ _ from HTy.out).mono ?_
  rintro e w2 ⟨⟨v, rfl, hps⟩, hb2⟩
  have HP : Hid (Wrd w2 w1.heap.size v ws) := ⟨hps⟩
  have HB2 : Hid _ := bthen HB1.out hb2
  have HZ : Hid (w.heap.size ≤ w1.heap.size) := HB1.out.size
  obtain ⟨av, cv, hsh⟩ := rowShaped HP.out.own
  subst hsh
  clear hps hb2 m0 m1 HTy
  go_wp2_with fail
  go_ret2
  exact ⟨⟨_, rfl, HP.out.mono HZ.out⟩, HB2.out⟩
set_option maxRecDepth 100000 in
set_option maxHeartbeats 1000000 in
theorem meshStore_yes (A : Nat → Addr) (base mb : Nat) (g : Gr) (x : MNet) (F : Nat → Prop) (p : Nat) (hg : g.Ok) (hp : p < g.n) (hx : x.Ok g) (w : World) (hw : Sl w A base) (h : MeshAt w mb g x F) :
    Calls Tryz.prog 63 #[.pointer (some ⟨mb, 0, none⟩), .int .i64 p] w fun e w' => (∃ v, e = .returned (.tuple #[v, .nilIface]) ∧ Wrd w' w.heap.size v (x.nd p).kept) ∧ Below w.heap.size w w' := by
  obtain ⟨M, hM, hFt⟩ := h.how
  have HM : Hid _ := hM
  have HMe : Hid _ := member_any A base mb g x M p w hw hM
  have hin : isNode g.n p = true := decide_eq_true ⟨by omega, by omega⟩
  have HC : Hid _ := fun w1 hb1 => nodeStore_any (M.nb p) g p (x.nd p) (M.Fp p) hg (hx.nd p hp) w1 ((hM.low hb1).node p hp)
  generalize (x.nd p).kept = ws at *
  clear h hw hFt hx hM
  go_enter Tryz.func63, Tryz.ntmps63
  go_wp2_with fail
  refine (show Calls _ _ _ _ _ from HMe.out).mono ?_
  rintro e w1 ⟨⟨v1, er1, rfl, _, hyes, _⟩, hb1⟩
  obtain ⟨rfl, rfl⟩ := hyes hin
  have HB1 : Hid _ := hb1
  have HM1 : Hid _ := HM.out.low hb1
  clear hyes hb1 HMe hin
  obtain ⟨m0, m1⟩ := HM1.out.mem p hp
  rw [Int.toNat_natCast]
  have HTy : Hid _ := HC.out w1 HB1.out
  go_wp2_with fail
  refine (show Calls _ _ _ _ _ from HTy.out).mono ?_
  rintro e w2 ⟨⟨v, rfl, hps⟩, hb2⟩
  have HP : Hid (Wrd w2 w1.heap.size v ws) := hps
  have HB2 : Hid _ := bthen HB1.out hb2
  have HZ : Hid (w.heap.size ≤ w1.heap.size) := HB1.out.size
  obtain ⟨av, cv, hsh⟩ := rowShaped HP.out.own
  subst hsh
  clear hps hb2 m0 m1 HTy
  go_wp2_with fail
  go_ret2
  exact ⟨⟨_, rfl, HP.out.mono HZ.out⟩, HB2.out⟩
set_option maxRecDepth 100000 in
set_option maxHeartbeats 1000000 in
theorem meshRefused_yes (A : Nat → Addr) (base mb : Nat) (g : Gr) (x : MNet) (F : Nat → Prop) (p : Nat) (hp : p < g.n) (w : World) (hw : Sl w A base) (h : MeshAt w mb g x F) :
    Calls Tryz.prog 142 #[.pointer (some ⟨mb, 0, none⟩), .int .i64 p] w fun e w' => e = .returned (.tuple #[.int .i64 (x.ref p), .nilIface]) ∧ Below w.heap.size w w' := by
  obtain ⟨M, hM, hFt⟩ := h.how
  have HM : Hid _ := hM
  have HMe : Hid _ := member_any A base mb g x M p w hw hM
  have hin : isNode g.n p = true := decide_eq_true ⟨by omega, by omega⟩
  clear h hw hFt hM
  go_enter Tryz.func142, Tryz.ntmps142
  go_wp2_with fail
  refine (show Calls _ _ _ _ _ from HMe.out).mono ?_
  rintro e w1 ⟨⟨v1, er1, rfl, _, hyes, _⟩, hb1⟩
  obtain ⟨rfl, rfl⟩ := hyes hin
  have HB1 : Hid _ := hb1
  have HM1 : Hid _ := HM.out.low hb1
  clear hyes hb1 HMe hin
  obtain ⟨m0, m1⟩ := HM1.out.mem p hp
  rw [Int.toNat_natCast]
  go_wp2_with fail
  go_ret2
  exact ⟨rfl, HB1.out⟩
end Go.Proofs.YtabecbjfamphbaaGreatDoor
