/-
  Texts that the proofs of this seat share, joined: Jd, Je.
-/
import Derived.Test.YtabecbjfamphbaaGreatDoorCar04
import Derived.Test.YtabecbjfamphbaaGreatDoorB39
/- hearsaykeep: the hands while they are made. -/
namespace Go.Proofs.YtabecbjfamphbaaGreatDoor
open Go.RowKit Go.Stop Go.Extern

theorem Tryz.nodePtrInfo : (Tryz.prog.info? 57).map (fun i => (i.zero, i.size, i.bytes)) = some (some (.pointer none), 1, 8) := by kernel_rfl
structure KLay where
  na : Option Addr
  ncap : Nat
  fb : Nat → Nat
  nb : Nat → Nat
  Fp : Nat → Nat → Prop
def nodeRow (fb : Nat → Nat) (k : Nat) : List Value := (List.range k).map fun p => .pointer (some ⟨fb p, 0, none⟩)
/-- The hands with the first k nodes. -/
structure JPre (w : World) (hb : Nat) (g : Gr) (k : Nat) (N : KLay) : Prop where
  c0 : w.cell? ⟨hb, 0, none⟩ = some (.slice N.na k N.ncap)
  own : w.ownsRow 0 57 1 (.slice N.na k N.ncap) k (nodeRow N.fb k)
  c1 : w.cell? ⟨hb, 1, none⟩ = some (.slice none 0 0)
  ty : ∃ cur, w.heap[hb]? = some (.cells cur 56 (0, 0))
  face : ∀ p, p < k → w.cell? ⟨N.fb p, 0, none⟩ = some (.pointer (some ⟨N.nb p, 0, none⟩))
  fne : ∀ p, p < k → N.fb p ≠ hb ∧ ¬ onB N.na (N.fb p)
  node : ∀ p, p < k → NodeAt w (N.nb p) g p (NS.new g) (N.Fp p)
  disj : ∀ p q, p < k → q < k → p ≠ q → ∀ j, N.Fp p j → ¬ N.Fp q j
  sep : ∀ p, p < k → ∀ j, N.Fp p j → j ≠ hb ∧ ¬ onB N.na j ∧ ∀ q, q < k → j ≠ N.fb q
def KLay.foot (N : KLay) (hb k j : Nat) : Prop := j = hb ∨ onB N.na j ∨ (∃ p, p < k ∧ j = N.fb p) ∨ ∃ p, p < k ∧ N.Fp p j
section
variable {w y : World} {hb : Nat} {g : Gr} {k : Nat} {N : KLay} {E : Nat → Prop}
theorem JPre.off (h : JPre w hb g k N) : ¬ onB N.na hb := by
  rintro ⟨off, hs⟩
  obtain ⟨cur, ht⟩ := h.ty
  rcases h.own.2 with ⟨he, _⟩ | ⟨g', cap', cur', he, _, hh, _⟩
  · rw [hs] at he; cases he
  · simp only [Value.slice.injEq] at he
    have e1 := he.1
    rw [hs] at e1
    cases e1
    exact ty_ne ht hh (by decide) rfl
theorem JPre.alike (h : JPre w hb g k N) (ha : Alike w y E) (hE : ∀ j, N.foot hb k j → ¬ E j) : JPre y hb g k N := by
  obtain ⟨cur, ht⟩ := h.ty
  have h0 : ¬ E hb := hE _ (Or.inl rfl)
  exact ⟨ha.cell h.c0 h0, row_alike2 h.own ha (fun j hj => hE j (Or.inr (Or.inl hj))), ha.cell h.c1 h0, ⟨cur, (ha.block _ (lt_of_some ht) h0).trans ht⟩, fun p hp => ha.cell (h.face p hp) (hE _ (Or.inr (Or.inr (Or.inl ⟨p, hp, rfl⟩)))), h.fne, fun p hp => (h.node p hp).alike ha (fun j hj => hE j (Or.inr (Or.inr (Or.inr ⟨p, hp, hj⟩)))), h.disj, h.sep⟩
theorem JPre.low (h : JPre w hb g k N) (hl : Below w.heap.size w y) : JPre y hb g k N := h.alike (Alike.of_below hl (fun _ => False)) (fun _ _ h => h)
theorem JPre.lt (h : JPre w hb g k N) {j : Nat} (hj : N.foot hb k j) : j < w.heap.size := by
  rcases hj with rfl | hj | ⟨p, hp, rfl⟩ | ⟨p, hp, hj⟩
  · exact lt_of_cell h.c0
  · obtain ⟨off, e⟩ := hj
    rcases h.own.2 with ⟨he, _⟩ | ⟨g', cap', cur', he, _, hh, _⟩
    · rw [e] at he; cases he
    · simp only [Value.slice.injEq] at he
      have e1 := he.1
      rw [e] at e1
      cases e1
      exact lt_of_some hh
  · exact lt_of_cell (h.face p hp)
  · exact (h.node p hp).lt hj
/-- One node more. -/
theorem jpre_in {w0 w1 : World} {na' : Option Addr} {cap' fbk bk : Nat} {Fk : Nat → Prop} (h0 : JPre w0 hb g k N) (hl : Below w0.heap.size w0 w) (hface : w.cell? ⟨fbk, 0, none⟩ = some (.pointer (some ⟨bk, 0, none⟩))) (hnode : NodeAt w bk g k (NS.new g) Fk) (hF : ∀ j, Fk j → w0.heap.size ≤ j ∧ j ≠ fbk) (hfb : w0.heap.size ≤ fbk)
    (hrest : Alike w w1 (onB N.na)) (hown : w1.ownsRow 0 57 1 (.slice na' (k + 1) cap') (k + 1) (nodeRow N.fb k ++ [.pointer (some ⟨fbk, 0, none⟩)])) (hnew : ∀ j, onB na' j → onB N.na j ∨ w.heap.size ≤ j) :
    ∃ N', JPre (w1.setCell ⟨hb, 0, none⟩ (.slice na' (k + 1) cap')) hb g (k + 1) N' ∧ (∀ j, N'.foot hb (k + 1) j → N.foot hb k j ∨ w0.heap.size ≤ j) ∧ Alike w (w1.setCell ⟨hb, 0, none⟩ (.slice na' (k + 1) cap')) (fun j => j = hb ∨ onB N.na j) := by
  have h : JPre w hb g k N := h0.low hl
  obtain ⟨cur, ht⟩ := h.ty
  have hnb := h.off
  have hset := Alike.setCell w1 ⟨hb, 0, none⟩ (.slice na' (k + 1) cap')
  have hty : w1.heap[hb]? = some (.cells cur 56 (0, 0)) := (hrest.block hb (lt_of_some ht) hnb).trans ht
  have hall : Alike w (w1.setCell ⟨hb, 0, none⟩ (.slice na' (k + 1) cap')) (fun j => j = hb ∨ onB N.na j) := ((Alike.refl w (fun j => j = hb ∨ onB N.na j)).trans hrest (fun j _ h => Or.inr h)).trans hset (fun j _ h => Or.inl h)
  have hlt : ∀ {j}, N.foot hb k j → j < w0.heap.size := fun hj => h0.lt hj
  have hle : w0.heap.size ≤ w.heap.size := hl.size
  have hne : ∀ j, w0.heap.size ≤ j → ¬ (j = hb ∨ onB N.na j) := fun j hj hc => by
    rcases hc with e | e
    · have := hlt (Or.inl e); omega
    · have := hlt (Or.inr (Or.inl e)); omega
  have hof : ∀ p, p < k → ¬ (N.fb p = hb ∨ onB N.na (N.fb p)) := fun p hp hc => hc.elim (h.fne p hp).1 (h.fne p hp).2
  have hna : ∀ j, j < w.heap.size → ¬ onB N.na j → ¬ onB na' j := fun j hj hn hc => by
    rcases hnew j hc with h1 | h1
    · exact hn h1
    · omega
  have ef : ∀ p, p < k → (if p = k then fbk else N.fb p) = N.fb p := fun p hp => if_neg (by omega)
  have hrow : nodeRow (fun p => if p = k then fbk else N.fb p) (k + 1) = nodeRow N.fb k ++ [.pointer (some ⟨fbk, 0, none⟩)] := by
    unfold nodeRow
    rw [List.range_succ, List.map_append]
    congr 1
    · apply List.map_congr_left
      intro p hp
      show Value.pointer (some ⟨if p = k then fbk else N.fb p, 0, none⟩) = _
      rw [ef p (List.mem_range.1 hp)]
    · simp
  refine ⟨⟨na', cap', fun p => if p = k then fbk else N.fb p, fun p => if p = k then bk else N.nb p, fun p => if p = k then Fk else N.Fp p⟩, ⟨World.cell?_setCell_same _ _ _ (hrest.cell h.c0 hnb), ?_, (World.cell?_setCell_other _ _ _ _ (by intro h; simp only [Addr.mk.injEq] at h; omega)).trans (hrest.cell h.c1 hnb), ⟨_, heap_setCell_same w1 hb 0 cur _ _ hty⟩, fun p hp => ?_, fun p hp => ?_, fun p hp => ?_, fun p q hp hq hpq j hj => ?_, fun p hp j hj => ?_⟩, fun j hj => ?_, hall⟩
  · simp only
    rw [hrow]
    refine row_alike2 hown hset (fun j hj e => ?_)
    obtain ⟨c1, e1⟩ := row_block hown hj
    have e' : j = hb := e
    subst e'
    exact ty_ne e1 hty (by decide) rfl
  · simp only
    by_cases e : p = k
    · rw [if_pos e, if_pos e]
      exact hall.cell hface (hne _ hfb)
    · rw [if_neg e, if_neg e]
      exact hall.cell (h.face p (by omega)) (hof p (by omega))
  · simp only
    by_cases e : p = k
    · rw [if_pos e]
      refine ⟨fun e2 => hne _ hfb (Or.inl e2), hna _ (lt_of_cell hface) (fun hc => hne _ hfb (Or.inr hc))⟩
    · rw [if_neg e]
      exact ⟨(h.fne p (by omega)).1, hna _ (lt_of_cell (h.face p (by omega))) (h.fne p (by omega)).2⟩
  · simp only
    by_cases e : p = k
    · rw [if_pos e, if_pos e]
      subst e
      exact hnode.alike hall (fun j hj => hne j (hF j hj).1)
    · rw [if_neg e, if_neg e]
      exact (h.node p (by omega)).alike hall (fun j hj hc => by
        obtain ⟨s1, s2, _⟩ := h.sep p (by omega) j hj
        exact hc.elim s1 s2)
  · simp only at hj ⊢
    by_cases e : p = k
    · rw [if_pos e] at hj
      rw [if_neg (by omega)]
      intro hc
      have h1 := (hF j hj).1
      have h2 := (h0.node q (by omega)).lt hc
      omega
    · rw [if_neg e] at hj
      by_cases e2 : q = k
      · rw [if_pos e2]
        intro hc
        have h1 := (hF j hc).1
        have h2 := (h0.node p (by omega)).lt hj
        omega
      · rw [if_neg e2]
        exact h.disj p q (by omega) (by omega) hpq j hj
  · simp only at hj ⊢
    by_cases e : p = k
    · rw [if_pos e] at hj
      obtain ⟨f1, f2⟩ := hF j hj
      have f3 := hnode.lt hj
      refine ⟨fun e2 => hne j f1 (Or.inl e2), hna j f3 (fun hc => hne j f1 (Or.inr hc)), fun q hq => ?_⟩
      by_cases e2 : q = k
      · rw [if_pos e2]
        exact f2
      · rw [if_neg e2]
        intro e3
        have := lt_of_cell (h0.face q (by omega))
        omega
    · rw [if_neg e] at hj
      obtain ⟨s1, s2, s3⟩ := h.sep p (by omega) j hj
      have f3 := (h0.node p (by omega)).lt hj
      refine ⟨s1, hna j (by omega) s2, fun q hq => ?_⟩
      by_cases e2 : q = k
      · rw [if_pos e2]
        omega
      · rw [if_neg e2]
        exact s3 q (by omega)
  · rcases hj with e | e | ⟨p, hp, e⟩ | ⟨p, hp, e⟩
    · exact Or.inl (Or.inl e)
    · rcases hnew j e with h1 | h1
      · exact Or.inl (Or.inr (Or.inl h1))
      · exact Or.inr (by omega)
    · simp only at e
      by_cases e2 : p = k
      · rw [if_pos e2] at e
        exact Or.inr (by omega)
      · rw [if_neg e2] at e
        exact Or.inl (Or.inr (Or.inr (Or.inl ⟨p, by omega, e⟩)))
    · simp only at e
      by_cases e2 : p = k
      · rw [if_pos e2] at e
        exact Or.inr (hF j e).1
      · rw [if_neg e2] at e
        exact Or.inl (Or.inr (Or.inr (Or.inr ⟨p, by omega, e⟩)))
/-- All nodes are made. -/
theorem JPre.done (h : JPre w hb g g.n N) (hg : g.Ok) : ∃ M, Jnd w hb g (fun _ => NS.new g) [] M ∧ ∀ j, M.foot hb g.n j → N.foot hb g.n j := by
  have hn := hg.n.1
  rcases h.own.2 with ⟨_, h0⟩ | ⟨gn, cap', cur, he, _, hh, hnc, _, hcs, htk⟩
  · omega
  · simp only [Value.slice.injEq] at he
    obtain ⟨hna, _, hcap⟩ := he
    obtain ⟨cur2, ht⟩ := h.ty
    have hcell : ∀ p, p < g.n → w.cell? ⟨gn, p, none⟩ = some (.pointer (some ⟨N.fb p, 0, none⟩)) := fun p hp => by
      rw [cell_of_row w gn p cur _ (0, 0) hh, ← Array.getElem?_toList]
      have hu : (nodeRow N.fb g.n)[p]? = some (.pointer (some ⟨N.fb p, 0, none⟩)) := by
        unfold nodeRow
        rw [List.getElem?_map, List.getElem?_range hp]
        rfl
      rw [← htk, List.getElem?_take] at hu
      split at hu
      · exact hu
      · cases hu
    refine ⟨⟨gn, cap', none, 0, N.fb, N.nb, N.Fp⟩, ⟨?_, ⟨h.c1, ⟨rfl, Or.inl ⟨rfl, rfl⟩⟩, cur2, ht⟩, ⟨cur, hh⟩, hcell, h.face, fun p hp => ⟨(h.fne p hp).1, fun hc => by obtain ⟨_, e⟩ := hc; cases e⟩, h.node, h.disj, fun p hp k hk => ?_⟩, fun j hj => ?_⟩
    · have := h.c0
      rw [hna, hcap] at this
      exact this
    · obtain ⟨s1, s2, s3⟩ := h.sep p hp k hk
      refine ⟨s1, fun e => s2 ⟨0, by rw [hna, e]⟩, fun hc => ?_, s3⟩
      obtain ⟨_, e⟩ := hc
      cases e
    · rcases hj with e | e | e | e | e
      · exact Or.inl e
      · exact Or.inr (Or.inl ⟨0, by rw [hna, e]⟩)
      · obtain ⟨_, e⟩ := e
        cases e
      · exact Or.inr (Or.inr (Or.inl e))
      · exact Or.inr (Or.inr (Or.inr e))
end
end Go.Proofs.YtabecbjfamphbaaGreatDoor

/- hearsaykeep: Carried. -/
namespace Go.Proofs.YtabecbjfamphbaaGreatDoor
open Go.RowKit Go.Stop Go.Extern

/-- A circle, and hands that are being made beside it. -/
structure PreAt (z : Nat) (w : World) (rb hb : Nat) (g : Gr) (x : MNet) (sd : List Sd) (sn : List Sn) (k : Nat) (C : CLay) (N : KLay) : Prop where
  c : Circ w rb g x sd sn C
  cz : ∀ j, C.foot rb sd sn j → z ≤ j
  m : JPre w hb g k N
  mz : ∀ j, N.foot hb k j → z ≤ j
  sep : ∀ j, C.foot rb sd sn j → ¬ N.foot hb k j
section
variable {z : Nat} {w y : World} {rb hb : Nat} {g : Gr} {x : MNet} {sd : List Sd} {sn : List Sn} {k : Nat} {C : CLay} {N : KLay}
theorem Circ.apart {E : Nat → Prop} (h : Circ w rb g x sd sn C) (ha : Alike w y E) (hE : ∀ j, C.foot rb sd sn j → ¬ E j) : Circ y rb g x sd sn C := by
  refine h.rest (E := E) ha (fun j hj => hE j ?_) rfl (h.net.alike ha (fun j hj => hE j (Or.inr (Or.inl hj)))) h.sep
  rcases hj with h | h | h | h | h
  · exact Or.inl h
  · exact Or.inr (Or.inr (Or.inl h))
  · exact Or.inr (Or.inr (Or.inr (Or.inl h)))
  · exact Or.inr (Or.inr (Or.inr (Or.inr (Or.inl h))))
  · exact Or.inr (Or.inr (Or.inr (Or.inr (Or.inr h))))
theorem PreAt.le (h : PreAt z w rb hb g x sd sn k C N) : z ≤ w.heap.size := (CircZ.mk ⟨C, h.c, h.cz⟩ : CircZ z w rb g x sd sn).le
theorem PreAt.low (h : PreAt z w rb hb g x sd sn k C N) (hl : Below w.heap.size w y) : PreAt z y rb hb g x sd sn k C N := ⟨h.c.low hl, h.cz, h.m.low hl, h.mz, h.sep⟩
theorem PreAt.more {w0 : World} {k' : Nat} {N' : KLay} (h : PreAt z w0 rb hb g x sd sn k C N) (hl : Below w0.heap.size w0 w) (hm : JPre y hb g k' N') (hF : ∀ j, N'.foot hb k' j → N.foot hb k j ∨ w0.heap.size ≤ j) (ha : Alike w y (fun j => j = hb ∨ onB N.na j)) : PreAt z y rb hb g x sd sn k' C N' ∧ Below z w0 y := by
  have hle := h.le
  have hfoot : ∀ j, (j = hb ∨ onB N.na j) → N.foot hb k j := fun j hj => by
    rcases hj with e | e
    · exact Or.inl e
    · exact Or.inr (Or.inl e)
  refine ⟨⟨(h.c.low hl).apart ha (fun j hj hc => h.sep j hj (hfoot j hc)), h.cz, hm, fun j hj => ?_, fun j hj hc => ?_⟩, (hl.mono hle).trans (below_of_alike ha (fun j hj => h.mz j (hfoot j hj)) (Nat.le_trans hle hl.size))⟩
  · rcases hF j hj with h1 | h1
    · exact h.mz j h1
    · omega
  · rcases hF j hc with h1 | h1
    · exact h.sep j hj h1
    · have := h.c.lt hj
      omega
end
theorem hands_new (w : World) : (w.alloc (.cells #[.slice none 0 0, .slice none 0 0] 56)).heap[w.heap.size]? = some (.cells #[.slice none 0 0, .slice none 0 0] 56 (0, 0)) := heap_alloc_new _ _
theorem PreAt.begin {z : Nat} {w : World} {rb : Nat} {g : Gr} {x : MNet} {sd : List Sd} {sn : List Sn} (h : CircZ z w rb g x sd sn) : ∃ C N, PreAt z (w.alloc (.cells #[.slice none 0 0, .slice none 0 0] 56)) rb w.heap.size g x sd sn 0 C N := by
  obtain ⟨C, h1, h2⟩ := h.how
  have hle := h.le
  have e : ∀ i, (w.alloc (.cells #[.slice none 0 0, .slice none 0 0] 56)).cell? ⟨w.heap.size, i, none⟩ = #[Value.slice none 0 0, .slice none 0 0][i]? := fun i => cell_of_row _ _ i _ _ (0, 0) (hands_new w)
  have hft : ∀ j, (KLay.mk none 0 (fun _ => 0) (fun _ => 0) (fun _ _ => False)).foot w.heap.size 0 j → j = w.heap.size := fun j hj => by
    rcases hj with e | ⟨_, e⟩ | ⟨p, hp, _⟩ | ⟨p, hp, _⟩
    · exact e
    · cases e
    · omega
    · omega
  refine ⟨C, ⟨none, 0, fun _ => 0, fun _ => 0, fun _ _ => False⟩, h1.low (below1 _ _), h2, ⟨e 0, ⟨rfl, Or.inl ⟨rfl, rfl⟩⟩, e 1, ⟨_, hands_new w⟩, fun p hp => by omega, fun p hp => by omega, fun p hp => by omega, fun p q hp => by omega, fun p hp => by omega⟩, fun j hj => ?_, fun j hj hc => ?_⟩
  · rw [hft j hj]
    exact hle
  · have := h1.lt hj
    have := hft j hc
    omega
theorem PreAt.two {z : Nat} {w : World} {rb hb : Nat} {g : Gr} {sd : List Sd} {sn : List Sn} {C : CLay} {N : KLay} (h : PreAt z w rb hb g (MNet.new g) sd sn g.n C N) (hg : g.Ok) : Two z (fun _ => False) w rb hb g (MNet.new g) (MNet.new g).nd (MNet.new g).bag sd sn := by
  obtain ⟨M, h1, h2⟩ := h.m.done hg
  exact ⟨C, M, h.c, h.cz, h1, fun j hj => h.mz j (h2 j hj), fun j hj hc => h.sep j hj (h2 j hc), fun _ hk => hk.elim⟩
theorem Run.wldJ {g : Gr} {x : MNet} {sd : List Sd} {sn : List Sn} {bag : List (Nat × Msg)} {said : List Fm} {m : Nat} (h : Run g x sd sn bag said m) (hg : g.Ok) : Wld g x m :=
  ⟨h.net.inv.ok, fun t ht => ⟨(h.text hg t ht).1, (h.text hg t ht).2.1, (h.text hg t ht).2.2.2⟩, h.ref, by rw [h.enc, List.length_map]; exact h.few⟩
set_option maxRecDepth 100000 in
set_option maxHeartbeats 8000000 in
theorem carriedLaw_any (A : Nat → Addr) (base : Nat) (N W B L : Int) (ad : Option Addr) (cap : Nat) (ops : List Stp) (hN : I64 N) (hW : I64 W) (hB : I64 B) (hL : I64 L) (hm : ops.length ≤ 9000000) (w : World) (hw : Sl w A base) (hbz : base ≤ w.heap.size) (hs : Scr w w.heap.size ad ops) :
    Calls Tryz.prog 9 #[.agg #[.int .i64 N, .int .i64 W, .int .i64 B, .int .i64 L], .slice ad ops.length cap] w fun e w' => e = .returned (.bool true) ∧ Below w.heap.size w w' := by
  have HFit : Hid _ := fun y => fit_g N W B L y hN hW hB hL
  have hg := fitG_ok N W B L
  have HW : Hid _ := hw
  have HS : Hid _ := hs
  have HZ : Hid (base ≤ w.heap.size) := hbz
  generalize fitG N W B L = g at *
  have HG : Hid g.Ok := hg
  have hn := hg.n
  have HWn : Hid (Wld g (MNet.new g) 0) := (Run.new hg (sn0 g.n) (fun s hs => by rw [List.eq_of_mem_replicate hs])).wldJ hg
  have HMet : Hid (∀ y, Below w.heap.size w y → Calls Tryz.prog 12 #[.agg #[.int .i64 (g.n : Int), .int .i64 g.W, .int .i64 g.B, .int .i64 g.L]] y fun e w' => (∃ rb, e = .returned (.pointer (some ⟨rb, 0, none⟩)) ∧ CircZ y.heap.size w' rb g (MNet.new g) [] (sn0 g.n)) ∧ Below y.heap.size y w') := fun y hy => met_any A base g hg y (hw.low hy)
  clear hw hs hbz hg
  go_enter Tryz.func9, Tryz.ntmps9
  go_wp2_with fail
  have HX : Hid _ := below1 w (.cells #[.int .i64 N, .int .i64 W, .int .i64 B, .int .i64 L] 26)
  generalize w.alloc (.cells #[.int .i64 N, .int .i64 W, .int .i64 B, .int .i64 L] 26) = X at *
  refine (show Calls _ _ _ _ _ from HFit.out _).mono ?_
  rintro e w1 ⟨rfl, hb1⟩
  have HB1 : Hid (Below w.heap.size w w1) := bthen HX.out hb1
  clear hb1
  go_wp2_with fail
  refine (show Calls _ _ _ _ _ from HMet.out _ HB1.out).mono ?_
  rintro e w2 ⟨⟨rb, rfl, hr2⟩, hb2⟩
  have HR2 : Hid (CircZ w1.heap.size w2 rb g (MNet.new g) [] (sn0 g.n)) := hr2
  have HB02 : Hid (Below w.heap.size w w2) := bthen HB1.out hb2
  clear hr2 hb2
  go_wp2_with fail
  refine (first_any A base w2 (HW.out.low HB02.out) (Nat.le_trans HZ.out HB02.out.size)).mono ?_
  rintro e w3 ⟨rfl, hb3⟩
  have HR3 : Hid (CircZ w1.heap.size w3 rb g (MNet.new g) [] (sn0 g.n)) := HR2.out.low hb3
  have HB03 : Hid (Below w.heap.size w w3) := bthen HB02.out hb3
  clear hb3
  have hz1 : base ≤ w1.heap.size := Nat.le_trans HZ.out HB1.out.size
  have HZ1 : Hid (w.heap.size ≤ w1.heap.size) := HB1.out.size
  have HP3 : Hid (∃ C N, PreAt w1.heap.size (w3.alloc (.cells #[.slice none 0 0, .slice none 0 0] 56)) rb w3.heap.size g (MNet.new g) [] (sn0 g.n) 0 C N) := PreAt.begin HR3.out
  have HB3 : Hid (Below w.heap.size w (w3.alloc (.cells #[.slice none 0 0, .slice none 0 0] 56))) := bthen HB03.out (below1 _ _)
  obtain ⟨i0, hi, hz0, hzz1, hz2⟩ := info_parts Tryz.nodePtrInfo
  go_wp2_with fail
  generalize w3.alloc (.cells #[.slice none 0 0, .slice none 0 0] 56) = Y at *
  generalize w3.heap.size = hb at *
  go_loopw [8] (fun c wr => ∃ k : Nat, k ≤ g.n ∧ c = .int .i64 k ∧ (∃ C N, PreAt w1.heap.size wr rb hb g (MNet.new g) [] (sn0 g.n) k C N) ∧ Below w.heap.size w wr) (fun c _ => g.n - (intOf c).toNat)
  case atStart => exact ⟨0, Nat.zero_le _, rfl, HP3.out, HB3.out⟩
  case round =>
    obtain ⟨k, hkn, rfl, ⟨C, NN, hP⟩, hb'⟩ := hrel
    have HP : Hid _ := hP
    have HB : Hid (Below w.heap.size w wr) := hb'
    have c0 := hP.c.c0
    have c1 := hP.c.c1
    have c2 := hP.c.c2
    have c3 := hP.c.c3
    clear hP hb'
    by_cases hlt : k < g.n
    · have hki : (k : Int) < (g.n : Int) := by omega
      have HNw : Hid _ := faceNew A base g k HG.out hlt wr (HW.out.low HB.out)
      go_wp2_with fail
      refine (show Calls _ _ _ _ _ from HNw.out).mono ?_
      rintro e w5 ⟨⟨fbk, bk, Fk, rfl, hface, hnode, hF, hfb⟩, hb5⟩
      have HFc : Hid (w5.cell? ⟨fbk, 0, none⟩ = some (.pointer (some ⟨bk, 0, none⟩)) ∧ NodeAt w5 bk g k (NS.new g) Fk ∧ (∀ j, Fk j → wr.heap.size ≤ j ∧ j ≠ fbk) ∧ wr.heap.size ≤ fbk) := ⟨hface, hnode, hF, hfb⟩
      have HB5 : Hid (Below wr.heap.size wr w5) := hb5
      have HP5 : Hid _ := HP.out.low hb5
      have d0 := HP5.out.m.c0
      have HO : Hid _ := HP5.out.m.own
      have hty := HP5.out.m.ty
      have fz := frozen_ty hty 0
      have hhb : hb < w5.heap.size := lt_of_cell d0
      have HNa : Hid (¬ onB NN.na hb) := HP5.out.m.off
      clear hface hnode hF hfb hb5 HNw c0 c1 c2 c3 hty
      go_wp2_with (at_builtin; refine wpList_append_own_at _ rfl (.tmp 63) (.tmp 65) 53 rfl 0 57 i0 _ 1 8 Tryz.underlying53 hi hz0 hzz1 hz2 rfl (by decide) _ _ _ rfl (World.ownsRow.alloc HO.out _) ⟨w5.heap.size, 0, none⟩ 1 1 [.pointer (some ⟨fbk, 0, none⟩)] rfl rfl ?q1 ?q2 (by unfold maxLen; omega) (by omega) (Nat.zero_le _) ?_)
      case q1 =>
        intro q u hq
        match q, hq with
        | 0, hq => simp at hq; subst hq; simp [Addr.add]
      case q2 =>
        intro u hu
        simp at hu
        subst hu
        rfl
      intro v' w6 hown hgrow _ hat
      have HOM : Hid (∀ j, (Value.slice NN.na k NN.ncap).ownBlock = some j → onB NN.na j) := fun j hj => own_onB HO.out hj
      have HA6 : Hid (Alike w5 w6 (onB NN.na)) := (Alike.of_below (below1 w5 _) _).trans (Alike.of_grown hgrow) (fun j _ hj => HOM.out j hj)
      obtain ⟨a4, c4, hg4⟩ := rowShaped hown
      subst hg4
      have HNew : Hid (∀ j, onB a4 j → onB NN.na j ∨ w5.heap.size ≤ j) := fun j ⟨off, hj⟩ => by
        rcases hown.2 with ⟨he, _⟩ | ⟨g', cap', cur', he, _⟩
        · rw [hj] at he; cases he
        · cases he
          cases hj
          rcases hat with h | h
          · exact Or.inl (HOM.out _ h.symm)
          · cases h
            exact Or.inr (by simp)
      have HOw : Hid (w6.ownsRow 0 57 1 (.slice a4 (k + 1) c4) (k + 1) (nodeRow NN.fb k ++ [.pointer (some ⟨fbk, 0, none⟩)])) := hown
      have f6 := HA6.out.cell d0 HNa.out
      have ff := HA6.out.frozen hhb fz HNa.out
      have HPn : Hid (∃ C N, PreAt w1.heap.size (w6.setCell ⟨hb, 0, none⟩ (.slice a4 (k + 1) c4)) rb hb g (MNet.new g) [] (sn0 g.n) (k + 1) C N) := by
        obtain ⟨q1, q2, q3, q4⟩ := HFc.out
        obtain ⟨N', h1, h2, h3⟩ := jpre_in HP.out.m HB5.out q1 q2 q3 q4 HA6.out HOw.out HNew.out
        exact ⟨C, N', (HP.out.more HB5.out h1 h2 h3).1⟩
      have HBn : Hid (Below w.heap.size w (w6.setCell ⟨hb, 0, none⟩ (.slice a4 (k + 1) c4))) := by
        obtain ⟨q1, q2, q3, q4⟩ := HFc.out
        obtain ⟨N', h1, h2, h3⟩ := jpre_in HP.out.m HB5.out q1 q2 q3 q4 HA6.out HOw.out HNew.out
        exact HB.out.trans ((HP.out.more HB5.out h1 h2 h3).2.mono HZ1.out)
      clear hown hgrow hat d0 fz
      go_wp2_with fail
      go_roundw
      case rel => exact ⟨k + 1, by omega, by go_num, HPn.out, HBn.out⟩
      case measure => simp [intOf]; omega
    · have hkn' : k = g.n := by omega
      subst hkn'
      have HJ : Hid (JRan w1.heap.size wr rb hb g [] (sn0 g.n) 0) := ⟨MNet.new g, HP.out.two HG.out, HWn.out⟩
      obtain ⟨wz, hwz⟩ : ∃ wz, wz = wr := ⟨_, rfl⟩
      subst hwz
      clear c1 c2 c3
      have HSt : Hid (∀ y k o, ops[k]? = some o → Below w.heap.size w y → JRan w1.heap.size y rb hb g [] (sn0 g.n) k → Calls Tryz.prog 28 #[.pointer (some ⟨rb, 0, none⟩), .pointer (some ⟨hb, 0, none⟩), o.val] y fun e w' => e = .returned (.bool true) ∧ JRan w1.heap.size w' rb hb g [] (sn0 g.n) (k + 1) ∧ Below w1.heap.size y w') := fun y k o hk hy hr => by
        have hkl := (List.getElem?_eq_some_iff.1 hk).1
        exact carried_any A base w1.heap.size rb hb g [] (sn0 g.n) k o (HS.out.ok o (List.mem_of_getElem? hk)) HG.out (by omega) y (HW.out.low hy) hz1 hr
      go_wp2_with fail
      go_loopw [6, 11] (fun a c wr => ∃ i : Nat, i ≤ ops.length ∧ a = .bool true ∧ c = .int .i64 i ∧ JRan w1.heap.size wr rb hb g [] (sn0 g.n) i ∧ Below w.heap.size w wr) (fun _ c _ => ops.length - (intOf c).toNat)
      case atStart => exact ⟨0, Nat.zero_le _, rfl, rfl, HJ.out, HB.out⟩
      case round =>
        obtain ⟨i, hin, rfl, rfl, hr, hbi⟩ := hrel
        have HR : Hid (JRan w1.heap.size wr rb hb g [] (sn0 g.n) i) := hr
        have HBi : Hid (Below w.heap.size w wr) := hbi
        clear hr hbi
        by_cases hli : i < ops.length
        · have hii : (i : Int) < (ops.length : Int) := by omega
          obtain ⟨o, hok⟩ : ∃ o, ops[i]? = some o := ⟨ops[i], List.getElem?_eq_getElem _⟩
          obtain ⟨b, off, rfl, hbz, hst⟩ := HS.out.lies i o hok
          have hst' := StpAt.below hst HBi.out hbz
          have HStk : Hid _ := HSt.out wr i o hok HBi.out HR.out
          unfold Stp.val at HStk
          obtain ⟨t0, t1, t2, t3, t4, t5, t6, t7, t8, t9, t10, t11⟩ := hst'
          obtain ⟨K, a, bb, v, s, f0, f1, f2, f3, f4, fa, fl, fc, fb⟩ := o
          simp only at t0 t1 t2 t3 t4 t5 t6 t7 t8 t9 t10 t11
          clear hok hst
          go_wp2_with fail
          refine (show Calls _ _ _ _ _ from HStk.out).mono ?_
          rintro e w4 ⟨rfl, hr4, hb4⟩
          have HR4 : Hid (JRan w1.heap.size w4 rb hb g [] (sn0 g.n) (i + 1)) := hr4
          have HB4 : Hid (Below w.heap.size w w4) := HBi.out.trans (hb4.mono HZ1.out)
          clear hr4 hb4
          go_wp2_with fail
          go_roundw
          case rel => exact ⟨i + 1, by omega, rfl, by go_num, HR4.out, HB4.out⟩
          case measure => simp [intOf]; omega
        · have hin' : i = ops.length := by omega
          subst hin'
          obtain ⟨x, ⟨C, M, hT⟩, hWl⟩ := HR.out
          have HT : Hid (TwoAt w1.heap.size (fun _ => False) wr rb hb g x x.nd x.bag [] (sn0 g.n) C M) := hT
          have HWl : Hid (Wld g x ops.length) := hWl
          have HX : Hid (x.Ok g) := hWl.ok (by omega)
          clear hT hWl
          obtain ⟨wy, hwy⟩ : ∃ wy, wy = wr := ⟨_, rfl⟩
          subst hwy
          go_wp2_with fail
          go_loopw [6, 12] (fun a c wr => ∃ p : Nat, p ≤ g.n ∧ a = .bool true ∧ c = .int .i64 p ∧ Below wy.heap.size wy wr) (fun _ c _ => g.n - (intOf c).toNat)
          case atStart => exact ⟨0, Nat.zero_le _, rfl, rfl, Below.refl _ _⟩
          case round =>
            obtain ⟨p, hpn, rfl, rfl, hbp⟩ := hrel
            have HBp : Hid (Below wy.heap.size wy wr) := hbp
            have HTp : Hid (TwoAt w1.heap.size (fun _ => False) wr rb hb g x x.nd x.bag [] (sn0 g.n) C M) := HT.out.low hbp
            have HWp : Hid (Sl wr A base) := HW.out.low (bthen HBi.out hbp)
            have c0 := HTp.out.c.c0
            have c4 := HTp.out.c.c4
            clear hbp
            by_cases hp : p < g.n
            · have hpi : (p : Int) < (g.n : Int) := by omega
              have HHr : Hid _ := netHeard A base C.fb g x C.Fx p HG.out HX.out wr HWp.out HTp.out.c.net
              rw [heard_net hp] at HHr
              have hlh := (HX.out.nd p hp).clk.short HG.out hp
              have hlk := kept_few (HX.out.nd p hp) HG.out
              have HOk : Hid ((x.nd p).Ok g p) := HX.out.nd p hp
              generalize hS : x.nd p = S at *
              go_wp2_with fail
              refine (show Calls _ _ _ _ _ from HHr.out).mono ?_
              rintro e u1 ⟨⟨v1, rfl, hv1⟩, hb1⟩
              obtain ⟨a1, k1, hsh⟩ := rowShaped hv1.own
              subst hsh
              have HV1 : Hid (Wrd u1 wr.heap.size (.slice a1 S.hs.length k1) S.hs) := hv1
              have HBu1 : Hid (Below wr.heap.size wr u1) := hb1
              have HT1 : Hid _ := HTp.out.low hb1
              clear hv1 hb1 HHr c0 c4
              have h0 := HT1.out.m.c0
              have hmem := HT1.out.m.mem p hp
              have HFh : Hid _ := faceHeard (M.fb p) (M.nb p) g p (x.nd p) (M.Fp p) HG.out hp (by rw [hS]; exact HOk.out) u1 (HT1.out.m.face p hp) (HT1.out.m.node p hp)
              rw [hS] at HFh
              go_wp2_with fail
              refine (show Calls _ _ _ _ _ from HFh.out).mono ?_
              rintro e u2 ⟨⟨v2, rfl, hv2⟩, hb2⟩
              obtain ⟨a2, k2, hsh⟩ := rowShaped hv2.own
              subst hsh
              have HV2 : Hid (Wrd u2 u1.heap.size (.slice a2 S.hs.length k2) S.hs) := hv2
              have HBu2 : Hid (Below wr.heap.size wr u2) := bthen HBu1.out hb2
              have HV12 : Hid (Wrd u2 wr.heap.size (.slice a1 S.hs.length k1) S.hs) := HV1.out.low hb2
              have HT2 : Hid _ := HT1.out.low hb2
              clear hv2 hb2 HFh h0 hmem
              have c4 := HT2.out.c.c4
              have HSt2 : Hid _ := netStore A base C.fb g x C.Fx p HG.out HX.out u2 (HWp.out.low HBu2.out) HT2.out.c.net
              rw [store_net hp, hS] at HSt2
              go_wp2_with fail
              refine (show Calls _ _ _ _ _ from HSt2.out).mono ?_
              rintro e u3 ⟨⟨v3, rfl, hv3⟩, hb3⟩
              obtain ⟨a3, k3, hsh⟩ := rowShaped hv3.own
              subst hsh
              have HV3 : Hid (Wrd u3 u2.heap.size (.slice a3 S.kept.length k3) S.kept) := hv3
              have HBu3 : Hid (Below wr.heap.size wr u3) := bthen HBu2.out hb3
              have HT3 : Hid _ := HT2.out.low hb3
              have HV23 : Hid (Wrd u3 u1.heap.size (.slice a2 S.hs.length k2) S.hs) := HV2.out.low hb3
              have HV13 : Hid (Wrd u3 wr.heap.size (.slice a1 S.hs.length k1) S.hs) := HV12.out.low hb3
              clear hv3 hb3 HSt2 c4
              have h0 := HT3.out.m.c0
              have hmem := HT3.out.m.mem p hp
              have HFs : Hid _ := faceStore (M.fb p) (M.nb p) g p (x.nd p) (M.Fp p) HG.out (by rw [hS]; exact HOk.out) u3 (HT3.out.m.face p hp) (HT3.out.m.node p hp)
              rw [hS] at HFs
              go_wp2_with fail
              refine (show Calls _ _ _ _ _ from HFs.out).mono ?_
              rintro e u4 ⟨⟨v4, rfl, hv4⟩, hb4⟩
              obtain ⟨a4, k4, hsh⟩ := rowShaped hv4.own
              subst hsh
              have HV4 : Hid (Wrd u4 u3.heap.size (.slice a4 S.kept.length k4) S.kept) := hv4
              have HBu4 : Hid (Below wr.heap.size wr u4) := bthen HBu3.out hb4
              have HT4 : Hid _ := HT3.out.low hb4
              have HV34 : Hid (Wrd u4 u2.heap.size (.slice a3 S.kept.length k3) S.kept) := HV3.out.low hb4
              have HV24 : Hid (Wrd u4 u1.heap.size (.slice a2 S.hs.length k2) S.hs) := HV23.out.low hb4
              have HV14 : Hid (Wrd u4 wr.heap.size (.slice a1 S.hs.length k1) S.hs) := HV13.out.low hb4
              clear hv4 hb4 HFs h0 hmem
              have h0 := HT4.out.m.c0
              have hmem := HT4.out.m.mem p hp
              have HFc : Hid _ := faceClock (M.fb p) (M.nb p) g p (x.nd p) (M.Fp p) HG.out hp u4 (HT4.out.m.face p hp) (HT4.out.m.node p hp)
              rw [hS] at HFc
              go_wp2_with fail
              refine (show Calls _ _ _ _ _ from HFc.out).mono ?_
              rintro e u5 ⟨⟨v5, rfl, hv5⟩, hb5⟩
              have hnz : 0 < g.n := by omega
              obtain ⟨gc, kc, hsh⟩ : ∃ gc kc, v5 = .slice (some ⟨gc, 0, none⟩) g.n kc := by
                rcases hv5.2 with ⟨_, h⟩ | ⟨g', cap', cur', he, _⟩
                · omega
                · exact ⟨g', cap', he⟩
              subst hsh
              have HI5 : Hid (Ints u5 (some ⟨gc, 0, none⟩) g.n (S.vs.getD p [])) := ints_of_row hv5
              have HBu5 : Hid (Below wr.heap.size wr u5) := bthen HBu4.out hb5
              have HT5 : Hid _ := HT4.out.low hb5
              have HV45 : Hid (Wrd u5 u3.heap.size (.slice a4 S.kept.length k4) S.kept) := HV4.out.low hb5
              have HV35 : Hid (Wrd u5 u2.heap.size (.slice a3 S.kept.length k3) S.kept) := HV34.out.low hb5
              have HV15 : Hid (Wrd u5 wr.heap.size (.slice a1 S.hs.length k1) S.hs) := HV14.out.low hb5
              have HSw1 : Hid _ := sameWords_any _ _ a1 a2 k1 k2 S.hs (by omega) u5 HV15.out (HV24.out.low hb5)
              clear hv5 hb5 HFc h0 hmem
              go_wp2_with fail
              refine (show Calls _ _ _ _ _ from HSw1.out).mono ?_
              rintro e u6 ⟨rfl, hb6⟩
              have HSw2 : Hid _ := sameWords_any _ _ a3 a4 k3 k4 S.kept (by omega) u6 (HV35.out.low hb6) (HV45.out.low hb6)
              have HBu6 : Hid (Below wr.heap.size wr u6) := bthen HBu5.out hb6
              have HT6 : Hid _ := HT5.out.low hb6
              have HI6 : Hid (Ints u6 (some ⟨gc, 0, none⟩) g.n (S.vs.getD p [])) := HI5.out.below hb6
              have HV16 : Hid (Wrd u6 wr.heap.size (.slice a1 S.hs.length k1) S.hs) := HV15.out.low hb6
              clear hb6 HSw1
              go_wp2_with fail
              refine (show Calls _ _ _ _ _ from HSw2.out).mono ?_
              rintro e u7 ⟨rfl, hb7⟩
              have HBu7 : Hid (Below wr.heap.size wr u7) := bthen HBu6.out hb7
              have HT7 : Hid _ := HT6.out.low hb7
              have HI7 : Hid (Ints u7 (some ⟨gc, 0, none⟩) g.n (S.vs.getD p [])) := HI6.out.below hb7
              have HV17 : Hid (Wrd u7 wr.heap.size (.slice a1 S.hs.length k1) S.hs) := HV16.out.low hb7
              have c0 := HT7.out.c.c0
              have HCn : Hid _ := counts_any rb g.n a1 k1 wr.heap.size S.hs u7 hn.2 (by omega) HOk.out.clk.hd c0 HV17.out
              clear hb7 HSw2
              go_wp2_with fail
              refine (show Calls _ _ _ _ _ from HCn.out).mono ?_
              rintro e u8 ⟨⟨cb, rfl, hcb, hrow⟩, hb8⟩
              have HRow : Hid (RowI u8 cb (cnts g.n S.hs)) := hrow
              have HBu8 : Hid (Below wr.heap.size wr u8) := bthen HBu7.out hb8
              have HT8 : Hid _ := HT7.out.low hb8
              have HI8 : Hid (Ints u8 (some ⟨gc, 0, none⟩) g.n (S.vs.getD p [])) := HI7.out.below hb8
              clear hrow hb8 hcb HCn c0
              obtain ⟨wp, hwp⟩ : ∃ wp, wp = wr := ⟨_, rfl⟩
              subst hwp
              go_wp2_with fail
              go_loopw [22] (fun c wq => ∃ q : Nat, q ≤ g.n ∧ c = .int .i64 q ∧ Below u8.heap.size u8 wq) (fun c _ => g.n - (intOf c).toNat)
              case atStart => exact ⟨0, Nat.zero_le _, rfl, Below.refl _ _⟩
              case round =>
                obtain ⟨q, hqn, rfl, hbq⟩ := hrel
                have HBq : Hid (Below u8.heap.size u8 wr) := hbq
                have c0 := (HT8.out.low hbq).c.c0
                clear hbq
                by_cases hq : q < g.n
                · have hqi : (q : Int) < (g.n : Int) := by omega
                  have hc := RowI.cell (RowI.below HRow.out HBq.out (RowI.lt HRow.out)) (j := q) (by rw [cnts_length]; exact hq)
                  obtain ⟨gb, off, hgb, _, hk⟩ := (HI8.out.below HBq.out).cell q hq
                  cases hgb
                  rw [Nat.zero_add] at hk
                  have hval : (S.vs.getD p []).getD q 0 = (cnts g.n S.hs).getD q 0 := by
                    rw [cnts_get hq]
                    exact HOk.out.clk.cnt q hq
                  rw [hval] at hk
                  generalize (cnts g.n S.hs).getD q 0 = cq at *
                  go_wp2_with fail
                  go_quiet (fail)
                  go_wp2_with fail
                  go_roundw
                  case rel => exact ⟨q + 1, by omega, by go_num, by first | exact HBq.out | exact HBq.out.drew | exact below_drewN HBq.out _⟩
                  case measure => simp [intOf]; omega
                · have hqn' : q = g.n := by omega
                  subst hqn'
                  have HBe : Hid (Below wy.heap.size wy wr) := bthen HBp.out (bthen HBu8.out HBq.out)
                  go_wp2_with fail
                  go_roundw
                  case rel => exact ⟨p + 1, by omega, rfl, by go_num, HBe.out⟩
                  case measure => simp [intOf]; omega
            · have hpn' : p = g.n := by omega
              subst hpn'
              go_wp2_with fail
              go_ret
              exact ⟨rfl, bthen HBi.out HBp.out⟩
end Go.Proofs.YtabecbjfamphbaaGreatDoor
