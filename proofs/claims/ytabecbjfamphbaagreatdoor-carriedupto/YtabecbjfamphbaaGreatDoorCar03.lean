/-
  Texts that the proofs of this seat share, joined: Ja, Jb, Wa.
-/
import Derived.Test.YtabecbjfamphbaaGreatDoorCar01
import Derived.Test.YtabecbjfamphbaaGreatDoorCar02
import Derived.Test.YtabecbjfamphbaaGreatDoorB37
/- hearsaykeep: sameWords; Hands in memory. -/
namespace Go.Proofs.YtabecbjfamphbaaGreatDoor
open Go.RowKit Go.Stop Go.Extern

set_option maxRecDepth 100000 in
set_option maxHeartbeats 1000000 in
theorem sameWords_any (ba bb : Nat) (aa ab : Option Addr) (ca cb : Nat) (ws : List Wd) (hl : ws.length ≤ 1000000) (w : World) (ha : Wrd w ba (.slice aa ws.length ca) ws) (hb : Wrd w bb (.slice ab ws.length cb) ws) :
    Calls Tryz.prog 34 #[.slice aa ws.length ca, .slice ab ws.length cb] w fun e w' => e = .returned (.bool true) ∧ Below w.heap.size w w' := by
  have HA : Hid (∀ y, Below w.heap.size w y → Lies y w.heap.size aa ws) := fun y hy => ha.lies hy
  have HB : Hid (∀ y, Below w.heap.size w y → Lies y w.heap.size ab ws) := fun y hy => hb.lies hy
  clear ha hb
  go_enter Tryz.func34, Tryz.ntmps34
  go_wp2_with fail
  go_loopw [5] (fun c wr => ∃ k : Nat, k ≤ ws.length ∧ c = .int .i64 k ∧ Below w.heap.size w wr) (fun c _ => ws.length - (intOf c).toNat)
  case atStart => exact ⟨0, Nat.zero_le _, rfl, Below.refl _ _⟩
  case round =>
    obtain ⟨k, hkn, rfl, hb⟩ := hrel
    have HBw : Hid (Below w.heap.size w wr) := hb
    clear hb
    by_cases hlt : k < ws.length
    · have hki : (k : Int) < (ws.length : Int) := by omega
      obtain ⟨t, ht⟩ : ∃ t, ws[k]? = some t := ⟨ws[k], List.getElem?_eq_getElem _⟩
      obtain ⟨ga, hga, _, a0, a1, a2⟩ := HA.out wr HBw.out k t ht
      obtain ⟨gb, hgb, _, b0, b1, b2⟩ := HB.out wr HBw.out k t ht
      subst hga hgb
      obtain ⟨to', tq, tb⟩ := t
      simp only at a0 a1 a2 b0 b1 b2
      clear ht
      go_wp2_with fail
      go_quiet (fail)
      go_wp2_with fail
      go_roundw
      case rel => exact ⟨k + 1, by omega, by go_num, by first | exact HBw.out | exact HBw.out.drew | exact below_drewN HBw.out _⟩
      case measure => simp [intOf]; omega
    · have hkn' : k = ws.length := by omega
      subst hkn'
      go_wp2_with fail
      go_ret
      exact ⟨rfl, HBw.out⟩
/-- How the hands lie. -/
structure JLay where
  gn : Nat
  ncap : Nat
  wa : Option Addr
  wcap : Nat
  fb : Nat → Nat
  nb : Nat → Nat
  Fp : Nat → Nat → Prop
/-- Nodes by themselves, and the packets between them. -/
structure Jnd (w : World) (hb : Nat) (g : Gr) (nd : Nat → NS) (bag : List Pk) (M : JLay) : Prop where
  c0 : w.cell? ⟨hb, 0, none⟩ = some (.slice (some ⟨M.gn, 0, none⟩) g.n M.ncap)
  way : HWay w hb M.wa M.wcap bag
  gty : ∃ cur, w.heap[M.gn]? = some (.cells cur 57 (0, 0))
  mem : ∀ p, p < g.n → w.cell? ⟨M.gn, p, none⟩ = some (.pointer (some ⟨M.fb p, 0, none⟩))
  face : ∀ p, p < g.n → w.cell? ⟨M.fb p, 0, none⟩ = some (.pointer (some ⟨M.nb p, 0, none⟩))
  fne : ∀ p, p < g.n → M.fb p ≠ hb ∧ ¬ onB M.wa (M.fb p)
  node : ∀ p, p < g.n → NodeAt w (M.nb p) g p (nd p) (M.Fp p)
  disj : ∀ p q, p < g.n → q < g.n → p ≠ q → ∀ k, M.Fp p k → ¬ M.Fp q k
  sep : ∀ p, p < g.n → ∀ k, M.Fp p k → k ≠ hb ∧ k ≠ M.gn ∧ ¬ onB M.wa k ∧ ∀ q, q < g.n → k ≠ M.fb q
def JLay.foot (M : JLay) (hb n k : Nat) : Prop := k = hb ∨ k = M.gn ∨ onB M.wa k ∨ (∃ p, p < n ∧ k = M.fb p) ∨ ∃ p, p < n ∧ M.Fp p k
section
variable {w y z : World} {hb : Nat} {g : Gr} {nd : Nat → NS} {bag : List Pk} {M : JLay} {E : Nat → Prop}
theorem Jnd.alike (h : Jnd w hb g nd bag M) (ha : Alike w y E) (hE : ∀ k, M.foot hb g.n k → ¬ E k) : Jnd y hb g nd bag M := by
  obtain ⟨cur, ht⟩ := h.gty
  have hm : ¬ E M.gn := hE _ (Or.inr (Or.inl rfl))
  exact ⟨ha.cell h.c0 (hE _ (Or.inl rfl)), h.way.alike ha (hE _ (Or.inl rfl)) (fun k hk => hE k (Or.inr (Or.inr (Or.inl hk)))), ⟨cur, (ha.block _ (lt_of_some ht) hm).trans ht⟩, fun p hp => ha.cell (h.mem p hp) hm, fun p hp => ha.cell (h.face p hp) (hE _ (Or.inr (Or.inr (Or.inr (Or.inl ⟨p, hp, rfl⟩))))), h.fne, fun p hp => (h.node p hp).alike ha (fun k hk => hE k (Or.inr (Or.inr (Or.inr (Or.inr ⟨p, hp, hk⟩))))), h.disj, h.sep⟩
theorem Jnd.low (h : Jnd w hb g nd bag M) (hl : Below w.heap.size w y) : Jnd y hb g nd bag M := h.alike (Alike.of_below hl (fun _ => False)) (fun _ _ h => h)
theorem Jnd.lt (h : Jnd w hb g nd bag M) {k : Nat} (hk : M.foot hb g.n k) : k < w.heap.size := by
  rcases hk with rfl | rfl | hk | ⟨p, hp, rfl⟩ | ⟨p, hp, hk⟩
  · exact lt_of_cell h.c0
  · obtain ⟨_, e⟩ := h.gty; exact lt_of_some e
  · exact h.way.lt hk
  · exact lt_of_cell (h.face p hp)
  · exact (h.node p hp).lt hk
/-- A node did something. -/
theorem Jnd.did (h : Jnd w hb g nd bag M) {p : Nat} (hp : p < g.n) {s : NS} {v : Value} {ps : List Pk} (hd : Did w y (M.nb p) g p (M.Fp p) s v ps) :
    ∃ M', Jnd y hb g (upd nd p s) bag M' ∧ (∀ k, M'.foot hb g.n k → M.foot hb g.n k ∨ w.heap.size ≤ k) ∧ M'.wa = M.wa := by
  obtain ⟨⟨F', hn, hF'⟩, ha, _⟩ := hd
  have hoff : ∀ k, (k = hb ∨ k = M.gn ∨ onB M.wa k ∨ ∃ q, q < g.n ∧ k = M.fb q) → ¬ M.Fp p k := fun k hk hc => by
    obtain ⟨s1, s2, s3, s4⟩ := h.sep p hp k hc
    rcases hk with e | e | e | ⟨q, hq, e⟩
    · exact s1 e
    · exact s2 e
    · exact s3 e
    · exact s4 q hq e
  obtain ⟨cur, ht⟩ := h.gty
  refine ⟨{ M with Fp := fun q => if q = p then F' else M.Fp q }, ⟨ha.cell h.c0 (hoff _ (Or.inl rfl)), h.way.alike ha (hoff _ (Or.inl rfl)) (fun k hk => hoff k (Or.inr (Or.inr (Or.inl hk)))), ⟨cur, (ha.block _ (lt_of_some ht) (hoff _ (Or.inr (Or.inl rfl)))).trans ht⟩, fun q hq => ha.cell (h.mem q hq) (hoff _ (Or.inr (Or.inl rfl))), fun q hq => ha.cell (h.face q hq) (hoff _ (Or.inr (Or.inr (Or.inr ⟨q, hq, rfl⟩)))), h.fne, fun q hq => ?_, fun q r hq hr hne k hk => ?_, fun q hq k hk => ?_⟩, fun k hk => ?_, rfl⟩
  · by_cases e : q = p
    · subst e
      rw [upd_same]
      show NodeAt y (M.nb q) g q s (if q = q then F' else M.Fp q)
      rw [if_pos rfl]
      exact hn
    · rw [upd_other _ _ _ e]
      show NodeAt y (M.nb q) g q (nd q) (if q = p then F' else M.Fp q)
      rw [if_neg e]
      exact (h.node q hq).alike ha (fun k hk => h.disj q p hq hp e k hk)
  · have hk' : (if q = p then F' else M.Fp q) k := hk
    show ¬ (if r = p then F' else M.Fp r) k
    by_cases e : q = p
    · subst e
      rw [if_pos rfl] at hk'
      rw [if_neg (fun e => hne e.symm)]
      intro hc
      rcases hF' k hk' with h1 | h1
      · exact h.disj q r hq hr hne k h1 hc
      · have := (h.node r hr).lt hc
        omega
    · rw [if_neg e] at hk'
      by_cases e2 : r = p
      · subst e2
        rw [if_pos rfl]
        intro hc
        rcases hF' k hc with h1 | h1
        · exact h.disj q r hq hr hne k hk' h1
        · have := (h.node q hq).lt hk'
          omega
      · rw [if_neg e2]
        exact h.disj q r hq hr hne k hk'
  · have hk' : (if q = p then F' else M.Fp q) k := hk
    by_cases e : q = p
    · subst e
      rw [if_pos rfl] at hk'
      rcases hF' k hk' with h1 | h1
      · exact h.sep q hq k h1
      · have hlt : ∀ {j}, M.foot hb g.n j → j < w.heap.size := fun hj => h.lt hj
        refine ⟨fun e => ?_, fun e => ?_, fun e => ?_, fun r hr e => ?_⟩
        · have := hlt (Or.inl e); omega
        · have := hlt (Or.inr (Or.inl e)); omega
        · have := hlt (Or.inr (Or.inr (Or.inl e))); omega
        · have := hlt (Or.inr (Or.inr (Or.inr (Or.inl ⟨r, hr, e⟩)))); omega
    · rw [if_neg e] at hk'
      exact h.sep q hq k hk'
  · rcases hk with e | e | e | e | ⟨q, hq, hk⟩
    · exact Or.inl (Or.inl e)
    · exact Or.inl (Or.inr (Or.inl e))
    · exact Or.inl (Or.inr (Or.inr (Or.inl e)))
    · exact Or.inl (Or.inr (Or.inr (Or.inr (Or.inl e))))
    · have hk' : (if q = p then F' else M.Fp q) k := hk
      by_cases e : q = p
      · subst e
        rw [if_pos rfl] at hk'
        rcases hF' k hk' with h1 | h1
        · exact Or.inl (Or.inr (Or.inr (Or.inr (Or.inr ⟨q, hq, h1⟩))))
        · exact Or.inr h1
      · rw [if_neg e] at hk'
        exact Or.inl (Or.inr (Or.inr (Or.inr (Or.inr ⟨q, hq, hk'⟩))))
/-- The packets are others. -/
theorem Jnd.laid (h : Jnd w hb g nd bag M) {bag' : List Pk} (hl : HLaid w y hb M.wa bag') : ∃ M', Jnd y hb g nd bag' M' ∧ ∀ k, M'.foot hb g.n k → M.foot hb g.n k ∨ w.heap.size ≤ k := by
  obtain ⟨wa', wcap', hw, hn⟩ := hl.how
  have ha := hl.rest
  obtain ⟨cur, ht⟩ := h.gty
  have hgn : ¬ (M.gn = hb ∨ onB M.wa M.gn) := fun hc => by
    rcases hc with e | e
    · obtain ⟨c2, e2⟩ := h.way.ty
      rw [e] at ht
      exact ty_ne ht e2 (by decide) rfl
    · exact h.way.off ht (by decide) e
  have hfb : ∀ p, p < g.n → ¬ (M.fb p = hb ∨ onB M.wa (M.fb p)) := fun p hp hc => hc.elim (h.fne p hp).1 (h.fne p hp).2
  refine ⟨{ M with wa := wa', wcap := wcap' }, ⟨hl.c0 _ h.c0, hw, ⟨cur, (ha.block _ (lt_of_some ht) hgn).trans ht⟩, fun p hp => ha.cell (h.mem p hp) hgn, fun p hp => ha.cell (h.face p hp) (hfb p hp), fun p hp => ⟨(h.fne p hp).1, fun hc => ?_⟩, fun p hp => (h.node p hp).alike ha (fun k hk hc => ?_), h.disj, fun p hp k hk => ?_⟩, fun k hk => ?_⟩
  · rcases hn _ hc with h1 | h1
    · exact (h.fne p hp).2 h1
    · have h2 : w.heap.size ≤ M.fb p := h1
      have := lt_of_cell (h.face p hp)
      omega
  · obtain ⟨s1, s2, s3, s4⟩ := h.sep p hp k hk
    exact hc.elim s1 s3
  · obtain ⟨s1, s2, s3, s4⟩ := h.sep p hp k hk
    refine ⟨s1, s2, fun hc => ?_, s4⟩
    rcases hn _ hc with h1 | h1
    · exact s3 h1
    · have := (h.node p hp).lt hk
      omega
  · rcases hk with e | e | e | e | e
    · exact Or.inl (Or.inl e)
    · exact Or.inl (Or.inr (Or.inl e))
    · rcases hn _ e with h1 | h1
      · exact Or.inl (Or.inr (Or.inr (Or.inl h1)))
      · exact Or.inr h1
    · exact Or.inl (Or.inr (Or.inr (Or.inr (Or.inl e))))
    · exact Or.inl (Or.inr (Or.inr (Or.inr (Or.inr e))))
end
end Go.Proofs.YtabecbjfamphbaaGreatDoor

/- hearsaykeep: a net, and nodes by hand beside it. -/
namespace Go.Proofs.YtabecbjfamphbaaGreatDoor
open Go.RowKit Go.Stop Go.Extern

/-- A circle and hands that share no block; the blocks R are neither's. -/
structure TwoAt (z : Nat) (R : Nat → Prop) (w : World) (rb hb : Nat) (g : Gr) (x : MNet) (nd : Nat → NS) (bag : List Pk) (sd : List Sd) (sn : List Sn) (C : CLay) (M : JLay) : Prop where
  c : Circ w rb g x sd sn C
  cz : ∀ k, C.foot rb sd sn k → z ≤ k
  m : Jnd w hb g nd bag M
  mz : ∀ k, M.foot hb g.n k → z ≤ k
  sep : ∀ k, C.foot rb sd sn k → ¬ M.foot hb g.n k
  res : ∀ k, R k → k < w.heap.size ∧ ¬ C.foot rb sd sn k ∧ ¬ M.foot hb g.n k
def Two (z : Nat) (R : Nat → Prop) (w : World) (rb hb : Nat) (g : Gr) (x : MNet) (nd : Nat → NS) (bag : List Pk) (sd : List Sd) (sn : List Sn) : Prop := ∃ C M, TwoAt z R w rb hb g x nd bag sd sn C M
section
variable {z : Nat} {R : Nat → Prop} {w y : World} {rb hb : Nat} {g : Gr} {x x' : MNet} {nd : Nat → NS} {bag bag' : List Pk} {sd : List Sd} {sn : List Sn} {C : CLay} {M : JLay}
theorem TwoAt.le (h : TwoAt z R w rb hb g x nd bag sd sn C M) : z ≤ w.heap.size := (CircZ.mk ⟨C, h.c, h.cz⟩ : CircZ z w rb g x sd sn).le
theorem TwoAt.low (h : TwoAt z R w rb hb g x nd bag sd sn C M) (hl : Below w.heap.size w y) : TwoAt z R y rb hb g x nd bag sd sn C M := ⟨h.c.low hl, h.cz, h.m.low hl, h.mz, h.sep, fun k hk => ⟨Nat.lt_of_lt_of_le (h.res k hk).1 hl.size, (h.res k hk).2⟩⟩
/-- New blocks join the others. -/
theorem TwoAt.more {R' : Nat → Prop} (h : TwoAt z R w rb hb g x nd bag sd sn C M) (hl : Below w.heap.size w y) (hR : ∀ k, R' k → R k ∨ (w.heap.size ≤ k ∧ k < y.heap.size)) : TwoAt z R' y rb hb g x nd bag sd sn C M := ⟨h.c.low hl, h.cz, h.m.low hl, h.mz, h.sep, fun k hk => by
  rcases hR k hk with h1 | ⟨h1, h2⟩
  · exact ⟨Nat.lt_of_lt_of_le (h.res k h1).1 hl.size, (h.res k h1).2⟩
  · refine ⟨h2, fun hc => ?_, fun hc => ?_⟩
    · have := h.c.lt hc
      omega
    · have := h.m.lt hc
      omega⟩
/-- The net did something. -/
theorem TwoAt.net (h : TwoAt z R w rb hb g x nd bag sd sn C M) (hd : NDid w y C.fb g C.Fx x') : (∃ C', TwoAt z R y rb hb g x' nd bag sd sn C' M) ∧ Below z w y ∧ ∀ k, R k → y.heap[k]? = w.heap[k]? := by
  obtain ⟨C', h1, h2⟩ := h.c.did hd
  have hle := h.le
  have hm : Jnd y hb g nd bag M := h.m.alike hd.rest (fun k hk hc => h.sep k (Or.inr (Or.inl hc)) hk)
  refine ⟨⟨C', h1, fun k hk => ?_, hm, h.mz, fun k hk hc => ?_, fun k hk => ⟨Nat.lt_of_lt_of_le (h.res k hk).1 hd.rest.size, fun hc => ?_, (h.res k hk).2.2⟩⟩, below_of_alike hd.rest (fun k hk => h.cz k (Or.inr (Or.inl hk))) hle, fun k hk => hd.rest.block k (h.res k hk).1 (fun hc => (h.res k hk).2.1 (Or.inr (Or.inl hc)))⟩
  · rcases h2 k hk with h3 | h3
    · exact h.cz k h3
    · omega
  · rcases h2 k hk with h3 | h3
    · exact h.sep k h3 hc
    · have := h.m.lt hc
      omega
  · rcases h2 k hc with h3 | h3
    · exact (h.res k hk).2.1 h3
    · have := (h.res k hk).1
      omega
/-- What the hands changed is theirs. -/
theorem TwoAt.mine {nd' : Nat → NS} {M' : JLay} {E : Nat → Prop} (h : TwoAt z R w rb hb g x nd bag sd sn C M) (ha : Alike w y E) (hE : ∀ k, E k → M.foot hb g.n k) (hm : Jnd y hb g nd' bag' M') (hF : ∀ k, M'.foot hb g.n k → M.foot hb g.n k ∨ w.heap.size ≤ k) : TwoAt z R y rb hb g x nd' bag' sd sn C M' ∧ Below z w y ∧ ∀ k, R k → y.heap[k]? = w.heap[k]? := by
  have hle := h.le
  have hc : Circ y rb g x sd sn C := by
    refine h.c.rest (E := E) ha (fun k hk hE' => ?_) rfl (h.c.net.alike ha (fun k hk hE' => ?_)) h.c.sep
    · exact h.sep k (by
        rcases hk with h | h | h | h | h
        · exact Or.inl h
        · exact Or.inr (Or.inr (Or.inl h))
        · exact Or.inr (Or.inr (Or.inr (Or.inl h)))
        · exact Or.inr (Or.inr (Or.inr (Or.inr (Or.inl h))))
        · exact Or.inr (Or.inr (Or.inr (Or.inr (Or.inr h))))) (hE k hE')
    · exact h.sep k (Or.inr (Or.inl hk)) (hE k hE')
  refine ⟨⟨hc, h.cz, hm, fun k hk => ?_, fun k hk hcc => ?_, fun k hk => ⟨Nat.lt_of_lt_of_le (h.res k hk).1 ha.size, (h.res k hk).2.1, fun hcc => ?_⟩⟩, below_of_alike ha (fun k hk => h.mz k (hE k hk)) hle, fun k hk => ha.block k (h.res k hk).1 (fun hcc => (h.res k hk).2.2 (hE k hcc))⟩
  · rcases hF k hk with h1 | h1
    · exact h.mz k h1
    · omega
  · rcases hF k hcc with h1 | h1
    · exact h.sep k hk h1
    · have := h.c.lt hk
      omega
  · rcases hF k hcc with h1 | h1
    · exact (h.res k hk).2.2 h1
    · have := (h.res k hk).1
      omega
/-- A node by itself did something. -/
theorem TwoAt.hand (h : TwoAt z R w rb hb g x nd bag sd sn C M) {p : Nat} (hp : p < g.n) {s : NS} {v : Value} {ps : List Pk} (hd : Did w y (M.nb p) g p (M.Fp p) s v ps) : (∃ M', TwoAt z R y rb hb g x (upd nd p s) bag sd sn C M' ∧ M'.wa = M.wa) ∧ Below z w y ∧ ∀ k, R k → y.heap[k]? = w.heap[k]? := by
  obtain ⟨M', h1, h2, h6⟩ := h.m.did hp hd
  obtain ⟨h3, h4, h5⟩ := h.mine hd.rest (fun k hk => Or.inr (Or.inr (Or.inr (Or.inr ⟨p, hp, hk⟩)))) h1 h2
  exact ⟨⟨M', h3, h6⟩, h4, h5⟩
/-- The packets by hand are others. -/
theorem TwoAt.laid (h : TwoAt z R w rb hb g x nd bag sd sn C M) (hl : HLaid w y hb M.wa bag') : (∃ M', TwoAt z R y rb hb g x nd bag' sd sn C M') ∧ Below z w y ∧ ∀ k, R k → y.heap[k]? = w.heap[k]? := by
  obtain ⟨M', h1, h2⟩ := h.m.laid hl
  obtain ⟨h3, h4, h5⟩ := h.mine hl.rest (fun k hk => by
    rcases hk with e | e
    · exact Or.inl e
    · exact Or.inr (Or.inr (Or.inl e))) h1 h2
  exact ⟨⟨M', h3⟩, h4, h5⟩
end
end Go.Proofs.YtabecbjfamphbaaGreatDoor

/- A net into which anything may come, as plain data. -/
namespace Go.Proofs.YtabecbjfamphbaaGreatDoor
open Go.RowKit Go.Stop Go.Extern

/-- A packet that is a frame of the group. -/
def PkOk (g : Gr) (t : Pk) : Prop := (∃ q : Nat, t.to = q ∧ q < g.n) ∧ t.text.size ≤ 100 ∧ rAll g.n g.W g.B g.L t.text = none
/-- A net behind m steps. -/
structure Wld (g : Gr) (x : MNet) (m : Nat) : Prop where
  nd : ∀ p, p < g.n → (x.nd p).Ok g p
  bag : ∀ t ∈ x.bag, PkOk g t
  ref : ∀ p, p < g.n → 0 ≤ x.ref p ∧ x.ref p ≤ (m : Int)
  few : x.bag.length ≤ 520 * m
theorem Wld.ok {g : Gr} {x : MNet} {m : Nat} (h : Wld g x m) (hm : m ≤ 10000000) : x.Ok g :=
  ⟨h.nd, fun t ht => ⟨(h.bag t ht).1, (h.bag t ht).2.1⟩, fun p hp => ⟨(h.ref p hp).1, by have := (h.ref p hp).2; omega⟩, by have := h.few; omega⟩
theorem pkOk_enc {g : Gr} (hg : g.Ok) {y : Nat × Msg} (h1 : y.1 < g.n) (h2 : y.2.Ok g) : PkOk g (encP g y) := by
  obtain ⟨r1, r2, _⟩ := text_read hg h2
  exact ⟨⟨y.1, rfl, h1⟩, r2, r1⟩
theorem pass_ok {g : Gr} (hg : g.Ok) {p : Nat} (hp : p < g.n) {f : Fm} (hf : f.Ok g) (fr : Nat) : ∀ t ∈ (passM g p f fr).map (encP g), PkOk g t := fun t ht => by
  obtain ⟨y, hy, rfl⟩ := List.mem_map.1 ht
  obtain ⟨e1, e2, _⟩ := mem_passM hy
  exact pkOk_enc hg e2 (by rw [e1]; exact ⟨hp, hf⟩)
theorem tick_ok {g : Gr} (hg : g.Ok) {p : Nat} (hp : p < g.n) {s : NS} (hs : s.Ok g p) : ∀ t ∈ s.tick g p, PkOk g t := fun t ht => by
  rw [tick_enc] at ht
  obtain ⟨y, hy, rfl⟩ := List.mem_map.1 ht
  unfold tickM at hy
  obtain ⟨q, hq, hy⟩ := List.mem_flatMap.1 hy
  have hqn := List.mem_range.1 hq
  split at hy
  · cases hy
  · rcases List.mem_append.1 hy with h1 | h1
    · obtain ⟨f, hf, rfl⟩ := List.mem_map.1 h1
      exact pkOk_enc hg hqn ⟨hp, hs.st f (List.mem_filter.1 hf).1⟩
    · rw [List.mem_singleton] at h1
      subst h1
      exact pkOk_enc hg hqn ⟨hp, hs.clk.shp.elen p hp, fun o ho => hs.clk.bd p o hp ho⟩
/-- What comes of a text that is heard. -/
structure HearOk (g : Gr) (p : Nat) (s : NS) (t : ByteArray) (r : HR) : Prop where
  ok : r.s.Ok g p
  five : r.k = 5 ↔ rAll g.n g.W g.B g.L t ≠ none
  range : r.k = 0 ∨ (5 ≤ r.k ∧ r.k ≤ 8)
  not : r.k ≠ 0 → r.s = s ∧ r.ps = []
  ps : ∀ t ∈ r.ps, PkOk g t
  few : r.ps.length ≤ g.n
theorem hear_ok {g : Gr} (hg : g.Ok) {p : Nat} (hp : p < g.n) {s : NS} (hs : s.Ok g p) (t : ByteArray) : HearOk g p s t (s.hear g p t) := by
  have h0 := hs.hear hp t
  have hnot : ∀ {k : Nat}, k ≠ 5 → ¬ (k = 5) := fun h => h
  refine ⟨h0, ?_, ?_, ?_, ?_, ?_⟩ <;> unfold NS.hear <;> cases e : rAll g.n g.W g.B g.L t with
  | some v => simp
  | none =>
    simp only
    have hK : s.newK g p (dataOf g.n t) = 0 ∨ s.newK g p (dataOf g.n t) = 7 ∨ s.newK g p (dataOf g.n t) = 8 := by
      unfold NS.newK
      split
      · simp
      · split
        · simp
        · split <;> simp
    have hps : byt t 2 = 1 → (∀ u ∈ passL (textM g p (dataOf g.n t)) p (byt t 5) (byt t 4) g.n, PkOk g u) ∧ (passL (textM g p (dataOf g.n t)) p (byt t 5) (byt t 4) g.n).length ≤ g.n := fun h2 => by
      obtain ⟨h5, h6⟩ := data_ok e h2
      have he := passL_enc g p (dataOf g.n t) (byt t 4)
      rw [show (dataOf g.n t).org = ((byt t 5 : Nat) : Int) from rfl] at he
      rw [he]
      exact ⟨pass_ok hg hp h5 _, by rw [List.length_map]; exact passM_length⟩
    generalize s.newK g p (dataOf g.n t) = K at *
    by_cases h4 : byt t 4 = p
    · simp [h4]
    · by_cases h2 : byt t 2 = 1
      · have hps2 := hps h2
        by_cases h5 : byt t 5 = p
        · simp [h4, h2, h5]
        · by_cases hk0 : K = 0
          · simp [h4, h2, h5, hk0]
            try exact hps2.1
            try exact hps2.2
          · simp only [if_neg h4, if_pos h2, if_neg h5, if_neg hk0]
            first | (simp; done) | omega | (simp; omega)
      · simp [h4, h2]
section
variable {g : Gr} {x : MNet} {m : Nat}
theorem Wld.more (h : Wld g x m) : Wld g x (m + 1) := ⟨h.nd, h.bag, fun p hp => ⟨(h.ref p hp).1, by have := (h.ref p hp).2; omega⟩, by have := h.few; omega⟩
theorem Wld.drop (h : Wld g x m) (k : Nat) : Wld g { x with bag := x.bag.eraseIdx k } (m + 1) :=
  ⟨h.nd, fun t ht => h.bag t (List.mem_of_mem_eraseIdx ht), fun p hp => ⟨(h.ref p hp).1, by have := (h.ref p hp).2; show x.ref p ≤ _; omega⟩, by have := h.few; have := List.length_eraseIdx_le x.bag k; show (x.bag.eraseIdx k).length ≤ _; omega⟩
theorem Wld.tick (h : Wld g x m) (hg : g.Ok) {p : Nat} (hp : p < g.n) : Wld g (x.tick g p) (m + 1) :=
  ⟨h.nd, fun t ht => by
    rcases List.mem_append.1 ht with h1 | h1
    · exact h.bag t h1
    · exact tick_ok hg hp (h.nd p hp) t h1, fun q hq => ⟨(h.ref q hq).1, by have := (h.ref q hq).2; show x.ref q ≤ _; omega⟩, by
      have h1 := h.few
      have h2 := tick_few hg (h.nd p hp)
      show (x.bag ++ (x.nd p).tick g p).length ≤ _
      rw [List.length_append]
      omega⟩
theorem Wld.put {b : List Pk} (h : Wld g x m) {p : Nat} {s : NS} (hs : s.Ok g p) (hb : ∀ t ∈ b, PkOk g t) (hl : b.length ≤ 520 * (m + 1)) : Wld g { x.put p s with bag := b } (m + 1) :=
  ⟨fun q hq => by
    show (if q = p then s else x.nd q).Ok g q
    split
    · rename_i e; subst e; exact hs
    · exact h.nd q hq, hb, fun q hq => ⟨(h.ref q hq).1, by have := (h.ref q hq).2; show x.ref q ≤ _; omega⟩, hl⟩
theorem Wld.refuse {b : List Pk} (h : Wld g x m) {p : Nat} {s : NS} (hs : s.Ok g p) (hb : ∀ t ∈ b, PkOk g t) (hl : b.length ≤ 520 * (m + 1)) : Wld g (MNet.refuse { x.put p s with bag := b } p) (m + 1) :=
  ⟨(h.put hs hb hl).nd, hb, fun q hq => by
    have h1 := h.ref q hq
    show 0 ≤ (if q = p then x.ref p + 1 else x.ref q) ∧ (if q = p then x.ref p + 1 else x.ref q) ≤ _
    split
    · rename_i e; subst e; constructor <;> omega
    · constructor <;> omega, hl⟩
theorem Wld.deliver (h : Wld g x m) (hg : g.Ok) (k : Nat) {to : Nat} (t : ByteArray) (hto : to < g.n) : HearOk g to (x.nd to) t ((x.nd to).hear g to t) ∧ Wld g (x.deliver g k ⟨(to : Int), t⟩) (m + 1) := by
  have hh := hear_ok hg hto (h.nd to hto) t
  refine ⟨hh, ?_⟩
  have hb : ∀ u ∈ x.bag.eraseIdx k ++ ((x.nd to).hear g to t).ps, PkOk g u := fun u hu => by
    rcases List.mem_append.1 hu with h1 | h1
    · exact h.bag u (List.mem_of_mem_eraseIdx h1)
    · exact hh.ps u h1
  have hl : (x.bag.eraseIdx k ++ ((x.nd to).hear g to t).ps).length ≤ 520 * (m + 1) := by
    have h1 := h.few
    have h2 := List.length_eraseIdx_le x.bag k
    have h3 := hh.few
    have h4 := hg.n.2
    rw [List.length_append]
    omega
  unfold MNet.deliver
  show Wld g (let r := (x.nd ((to : Int).toNat)).hear g ((to : Int).toNat) t; let z : MNet := { x.put ((to : Int).toNat) r.s with bag := x.bag.eraseIdx k ++ r.ps }; if r.k = 0 then z else z.refuse ((to : Int).toNat)) _
  rw [Int.toNat_natCast]
  simp only
  split
  · exact h.put hh.ok hb hl
  · exact h.refuse hh.ok hb hl
/-- A text that nobody sent comes to a node. -/
theorem Wld.forge (h : Wld g x m) (hg : g.Ok) {p : Nat} (hp : p < g.n) (t : ByteArray) : HearOk g p (x.nd p) t ((x.nd p).hear g p t) ∧ Wld g (MNet.deliver g { x with bag := x.bag ++ [(⟨(p : Int), t⟩ : Pk)] } x.bag.length ⟨(p : Int), t⟩) (m + 1) := by
  have hh := hear_ok hg hp (h.nd p hp) t
  refine ⟨hh, ?_⟩
  have he : (x.bag ++ [(⟨(p : Int), t⟩ : Pk)]).eraseIdx x.bag.length = x.bag := by
    rw [List.eraseIdx_append_of_length_le (Nat.le_refl _)]
    simp
  have hb : ∀ u ∈ x.bag ++ ((x.nd p).hear g p t).ps, PkOk g u := fun u hu => by
    rcases List.mem_append.1 hu with h1 | h1
    · exact h.bag u h1
    · exact hh.ps u h1
  have hl : (x.bag ++ ((x.nd p).hear g p t).ps).length ≤ 520 * (m + 1) := by
    have h1 := h.few
    have h3 := hh.few
    have h4 := hg.n.2
    rw [List.length_append]
    omega
  unfold MNet.deliver
  show Wld g (let r := (x.nd ((p : Int).toNat)).hear g ((p : Int).toNat) t; let z : MNet := { x.put ((p : Int).toNat) r.s with bag := (x.bag ++ [(⟨(p : Int), t⟩ : Pk)]).eraseIdx x.bag.length ++ r.ps }; if r.k = 0 then z else z.refuse ((p : Int).toNat)) _
  rw [Int.toNat_natCast]
  simp only
  rw [he]
  split
  · exact h.put hh.ok hb hl
  · exact h.refuse hh.ok hb hl
theorem Wld.say (h : Wld g x m) (hg : g.Ok) {p : Nat} (hp : p < g.n) (body : ByteArray) : Wld g (x.sayR g p body).x (m + 1) := by
  rw [sayR_eq hp]
  show Wld g (x.say g p body) (m + 1)
  by_cases hK : (x.nd p).sayK g p body.size = 0
  · obtain ⟨h1, h2, h3⟩ := sayK_zero hK
    have he : (x.nd p).say g p body = ⟨0, vw (x.nd p).vs p p + 1, NS.sayL g p ((x.nd p).word g p body), (x.nd p).said g p ((x.nd p).word g p body)⟩ := if_pos hK
    have hwo := NS.word_ok (h.nd p hp) hg hp h1 h2 h3
    have hso := (h.nd p hp).said hp hwo rfl rfl (by show vw (x.nd p).vs p p + 1 ≤ _; omega)
    have hx : x.say g p body = { x.put p ((x.nd p).said g p ((x.nd p).word g p body)) with bag := x.bag ++ NS.sayL g p ((x.nd p).word g p body) } := by
      unfold MNet.say
      rw [he]
    rw [hx, sayL_enc g p _ rfl]
    refine h.put hso (fun u hu => ?_) ?_
    · rcases List.mem_append.1 hu with h4 | h4
      · exact h.bag u h4
      · exact pass_ok hg hp hwo _ u h4
    · have h4 := h.few
      have h5 := passM_length (g := g) (p := p) (f := (x.nd p).word g p body) (fr := p)
      have h6 := hg.n.2
      rw [List.length_append, List.length_map]
      omega
  · have he : (x.nd p).say g p body = ⟨(x.nd p).sayK g p body.size, 0, [], x.nd p⟩ := if_neg hK
    have hx : x.say g p body = x := by
      unfold MNet.say
      rw [he]
      have e : (fun q => if q = p then x.nd p else x.nd q) = x.nd := upd_self x.nd p
      simp only [MNet.put, e, List.append_nil]
    rw [hx]
    exact h.more
end
end Go.Proofs.YtabecbjfamphbaaGreatDoor
