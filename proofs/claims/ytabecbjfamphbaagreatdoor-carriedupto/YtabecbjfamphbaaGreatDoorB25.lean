/-
  Texts that the proofs of this seat share, joined: Cs, Na.
-/
import Derived.Test.YtabecbjfamphbaaGreatDoorB09
import Derived.Deep.RegionHeld3
import Derived.Test.YtabecbjfamphbaaGreatDoorB24
import Derived.OwnWalk
import Derived.Test.YtabecbjfamphbaaGreatDoorB13
/- What a node refuses: checkSay. -/
namespace Go.Proofs.YtabecbjfamphbaaGreatDoor
open Go.RowKit Go.Stop Go.Extern

/-- May a word be said? -/
def sayK (y l W B L : Int) (k : Nat) : Nat := if B < k then 2 else if L ≤ y then 3 else if W ≤ y - l then 4 else 0
set_option maxRecDepth 100000 in
set_option maxHeartbeats 1000000 in
theorem checkSay_any (A : Nat → Addr) (b n : Nat) (W B L : Int) (p gv : Nat) (rows : List Nat) (vs : List (List Int)) (body : ByteArray) (hp : p < n) (hn : n ≤ 8) (w : World) (hw : Sents w A) (hb : NB w b n W B L p gv) (hv : NVw w gv n rows vs) (hcb : 0 ≤ vw vs p p ∧ vw vs p p ≤ 65535) (hlb : 0 ≤ lowTo vs L p n ∧ lowTo vs L p n ≤ 65535) :
    Calls Tryz.prog 147 #[.pointer (some ⟨b, 0, none⟩), .string body] w fun e w' => (∃ v, e = .returned v ∧ IsErrA A v (sayK (vw vs p p) (lowTo vs L p n) W B L body.size)) ∧ Below w.heap.size w w' := by
  have HI : Hid (∀ k s, 1 ≤ k → k ≤ 8 → IsErrA A (.iface 208 (.agg #[.string s, .iface 298 (.pointer (some (A k)))])) k) := fun k s h1 h8 => ⟨Or.inr (Or.inl ⟨h1, h8, s, rfl⟩)⟩
  have HK : Hid (sayK (vw vs p p) (lowTo vs L p n) W B L body.size = if B < body.size then 2 else if L ≤ vw vs p p then 3 else if W ≤ vw vs p p - lowTo vs L p n then 4 else 0) := rfl
  have HC : Hid (∀ x, Below w.heap.size w x → x.cell? ⟨1, 0, none⟩ = some (.iface 298 (.pointer (some (A 2)))) ∧ x.cell? ⟨2, 0, none⟩ = some (.iface 298 (.pointer (some (A 3)))) ∧ x.cell? ⟨3, 0, none⟩ = some (.iface 298 (.pointer (some (A 4)))) ∧ x.cell? ⟨b, 1, none⟩ = some (.int .i64 W) ∧ x.cell? ⟨b, 2, none⟩ = some (.int .i64 B) ∧ x.cell? ⟨b, 3, none⟩ = some (.int .i64 L) ∧ x.cell? ⟨b, 4, none⟩ = some (.int .i64 (p : Int))) := fun x hx => by
    have h := hw.below hx
    have hn := hb.alike (E := fun _ => False) (Alike.of_below hx _) (fun h => h)
    exact ⟨h.c 2 (by decide) (by decide), h.c 3 (by decide) (by decide), h.c 4 (by decide) (by decide), hn.c1, hn.c2, hn.c3, hn.c4⟩
  have HLw : Hid (∀ x, Below w.heap.size w x → Calls Tryz.prog 188 #[.pointer (some ⟨b, 0, none⟩), .int .i64 (p : Int)] x fun e w' => e = .returned (.int .i64 (lowTo vs L p n)) ∧ w' = x) := fun x hx => low_any b n W B L p gv rows vs p x (hb.alike (E := fun _ => False) (Alike.of_below hx _) (fun h => h)) (hv.alike (E := fun _ => False) (Alike.of_below hx _) (fun h => h) (fun _ _ h => h)) hp hn
  have HCl : Hid (Calls Tryz.prog 102 #[.pointer (some ⟨b, 0, none⟩)] w.drew fun e w' => e = .returned (.slice (some ⟨rows.getD p 0, 0, none⟩) n n) ∧ ∃ m, w' = w.drew.drewN m) := clock_any b n W B L p gv rows vs w.drew (hb.alike (E := fun _ => False) (Alike.of_below (Below.refl _ _).drew _) (fun h => h)) (hv.alike (E := fun _ => False) (Alike.of_below (Below.refl _ _).drew _) (fun h => h) (fun _ _ h => h)) hp
  have hc := hv.cell hp hp
  have c4 := hb.c4
  have hpi : (p : Int) < (n : Int) := by omega
  have hwr : IntKind.i64.wrap (vw vs p p - lowTo vs L p n) = vw vs p p - lowTo vs L p n := by rw [IntKind.wrap_i64]; omega
  clear hw hb hv
  generalize sayK (vw vs p p) (lowTo vs L p n) W B L body.size = res at *
  generalize hgp : rows.getD p 0 = gp at *
  generalize hvo : vw vs p p = y at *
  generalize hlo : lowTo vs L p n = lw at *
  go_enter Tryz.func147, Tryz.ntmps147
  go_wp2_with fail
  go_region_held3 (fun x => x.cell? ⟨b, 4, none⟩ = some (.int .i64 (p : Int)) ∧ x.cell? ⟨gp, p, none⟩ = some (.int .i64 y)) (first | (exact ⟨c4, hc⟩) | go_keep) (first | (go_at_call 102; refine HCl.out.mono ?_; rintro e w' ⟨rfl, m, rfl⟩))
  have HY : Hid (Below w.heap.size w (w.drewN (1 + m))) := below_drewN (Below.refl _ _) _
  clear hc c4 HCl
  rename_i hHeld
  clear hHeld
  generalize w.drewN (1 + m) = Y at *
  obtain ⟨g2, g3, g4, c1, c2, c3, c4⟩ := HC.out Y HY.out
  by_cases h1 : B < (body.size : Int)
  · have HR : Hid (res = 2) := HK.out.trans (if_pos h1)
    clear HK
    go_wp2_with (go_at_call 90; refine (nodeRefuse_any _ _ _).mono ?_; rintro e w' ⟨rfl, rfl⟩)
    go_ret
    exact ⟨⟨_, rfl, by rw [show res = 2 from HR.out]; exact HI.out 2 _ (by decide) (by decide)⟩, HY.out⟩
  · by_cases h2 : L ≤ y
    · have HR : Hid (res = 3) := HK.out.trans ((if_neg h1).trans (if_pos h2))
      clear HK
      go_wp2_with (go_at_call 90; refine (nodeRefuse_any _ _ _).mono ?_; rintro e w' ⟨rfl, rfl⟩)
      go_ret
      exact ⟨⟨_, rfl, by rw [show res = 3 from HR.out]; exact HI.out 3 _ (by decide) (by decide)⟩, HY.out⟩
    · by_cases h3 : W ≤ y - lw
      · have HR : Hid (res = 4) := HK.out.trans ((if_neg h1).trans ((if_neg h2).trans (if_pos h3)))
        clear HK
        go_wp2_with fail
        go_region_held3 (fun x => x.cell? ⟨b, 4, none⟩ = some (.int .i64 (p : Int)) ∧ x.cell? ⟨b, 1, none⟩ = some (.int .i64 W)) (first | (exact ⟨c4, c1⟩) | go_keep) (first | (go_at_call 188; refine (HLw.out _ HY.out.drew).mono ?_; rintro e w' ⟨rfl, rfl⟩))
        go_wp2_with (go_at_call 90; refine (nodeRefuse_any _ _ _).mono ?_; rintro e w' ⟨rfl, rfl⟩)
        go_ret
        exact ⟨⟨_, rfl, by rw [show res = 4 from HR.out]; exact HI.out 4 _ (by decide) (by decide)⟩, HY.out.drew⟩
      · have HR : Hid (res = 0) := HK.out.trans ((if_neg h1).trans ((if_neg h2).trans (if_neg h3)))
        clear HK
        go_wp2_with fail
        go_region_held3 (fun x => x.cell? ⟨b, 4, none⟩ = some (.int .i64 (p : Int)) ∧ x.cell? ⟨b, 1, none⟩ = some (.int .i64 W)) (first | (exact ⟨c4, c1⟩) | go_keep) (first | (go_at_call 188; refine (HLw.out _ HY.out.drew).mono ?_; rintro e w' ⟨rfl, rfl⟩))
        go_wp2_with fail
        go_ret
        exact ⟨⟨_, rfl, by rw [show res = 0 from HR.out]; exact ⟨Or.inl ⟨rfl, rfl⟩⟩⟩, HY.out.drew⟩
end Go.Proofs.YtabecbjfamphbaaGreatDoor

/- A node in memory as plain data; its Say. -/
namespace Go.Proofs.YtabecbjfamphbaaGreatDoor
open Go.RowKit Go.Stop Go.Extern

def Fr.fm (f : Fr) : Fm := ⟨f.org, f.seq, f.low, f.vec, f.body⟩
theorem ordF_neg {a f : Fr} : ordF a f < 0 ↔ Bef a.fm f.fm := by
  unfold ordF ordI cmpI Bef Fr.fm
  simp only
  split <;> (repeat' split) <;> omega
theorem ordF_zero {a f : Fr} : ordF a f = 0 ↔ a.org = f.org ∧ a.seq = f.seq := by
  unfold ordF ordI cmpI
  split <;> (repeat' split) <;> omega
/-- The place of a word in a store that is sorted. -/
theorem place_of {fs : List Fr} (h : (fs.map Fr.fm).Pairwise Bef) (f : Fr) : ∃ m, Place fs f m := by
  induction fs with
  | nil => exact ⟨0, Nat.le_refl _, fun i a hi => by simp at hi, fun i a hi => by simp at hi⟩
  | cons a fs ih =>
    rw [List.map_cons] at h
    obtain ⟨h1, h2⟩ := List.pairwise_cons.1 h
    by_cases hb : Bef a.fm f.fm
    · obtain ⟨m, hm⟩ := ih h2
      refine ⟨m + 1, by have := hm.le; simp; omega, fun i x hi him => ?_, fun i x hi him => ?_⟩
      · cases i with
        | zero => simp at hi; subst hi; exact ordF_neg.2 hb
        | succ i => simp at hi; exact hm.lo i x hi (by omega)
      · cases i with
        | zero => omega
        | succ i => simp at hi; exact hm.hi i x hi (by omega)
    · refine ⟨0, Nat.zero_le _, fun i x _ hi => absurd hi (Nat.not_lt_zero _), fun i x hi _ => ?_⟩
      have hx : ¬ Bef x.fm f.fm := by
        rcases List.mem_cons.1 (List.mem_of_getElem? hi) with rfl | hx
        · exact hb
        · exact fun hc => hb ((h1 x.fm (List.mem_map_of_mem hx)).trans hc)
      rw [← ordF_neg] at hx
      omega
theorem insF_map {fs : List Fr} {f : Fr} {m : Nat} (hm : Place fs f m) : (insF fs m f).map Fr.fm = insM (fs.map Fr.fm) f.fm := by
  induction fs generalizing m with
  | nil =>
    have := hm.le
    simp at this
    subst this
    rfl
  | cons a fs ih =>
    rw [List.map_cons]
    unfold insM
    cases m with
    | zero =>
      have := hm.hi 0 a rfl (Nat.le_refl _)
      rw [if_neg (fun c => by rw [← ordF_neg] at c; omega)]
      rfl
    | succ m =>
      have h0 := hm.lo 0 a rfl (by omega)
      rw [if_pos (ordF_neg.1 h0)]
      rw [← ih (m := m) ⟨by have := hm.le; simp at this; omega, fun i x hi him => hm.lo (i + 1) x hi (by omega), fun i x hi him => hm.hi (i + 1) x hi (by omega)⟩]
      rfl
theorem mem_insF {fs : List Fr} {f a : Fr} {m : Nat} : a ∈ insF fs m f → a = f ∨ a ∈ fs := by
  unfold insF
  intro h
  rcases List.mem_append.1 h with h | h
  · exact Or.inr (List.mem_of_mem_take h)
  · rcases List.mem_cons.1 h with h | h
    · exact Or.inl h
    · exact Or.inr (List.mem_of_mem_drop h)
theorem found_iff {fs : List Fr} (h : (fs.map Fr.fm).Pairwise Bef) {f : Fr} {m : Nat} (hm : Place fs f m) : foundAt fs f m = true ↔ ∃ a ∈ fs.map Fr.fm, a.org = f.org ∧ a.seq = f.seq := by
  unfold foundAt
  constructor
  · intro hf
    cases e : fs[m]? with
    | none => rw [e] at hf; cases hf
    | some a =>
      rw [e] at hf
      have := ordF_zero.1 (of_decide_eq_true hf)
      exact ⟨a.fm, List.mem_map_of_mem (List.mem_of_getElem? e), this⟩
  · rintro ⟨_, ha, hk⟩
    obtain ⟨a, ha', rfl⟩ := List.mem_map.1 ha
    obtain ⟨i, hi⟩ := List.mem_iff_getElem?.1 ha'
    have hz : ordF a f = 0 := ordF_zero.2 hk
    have hmi : m ≤ i := by
      rcases Nat.lt_or_ge i m with h' | h'
      · have := hm.lo i a hi h'; omega
      · exact h'
    rcases Nat.lt_or_ge m i with hlt | hge
    · exfalso
      have hil := (List.getElem?_eq_some_iff.1 hi).1
      obtain ⟨x, hx⟩ : ∃ x, fs[m]? = some x := ⟨fs[m]'(by omega), List.getElem?_eq_getElem _⟩
      have h1 := hm.hi m x hx (Nat.le_refl _)
      have h2 : Bef x.fm a.fm := by
        have := List.pairwise_iff_getElem.1 h m i (by simp; omega) (by simp; omega) hlt
        rw [List.getElem_map, List.getElem_map] at this
        rw [(List.getElem?_eq_some_iff.1 hx).2, (List.getElem?_eq_some_iff.1 hi).2] at this
        exact this
      have h3 : Bef x.fm f.fm := by
        have e1 : a.fm.org = f.fm.org := hk.1
        have e2 : a.fm.seq = f.fm.seq := hk.2
        unfold Bef at *
        omega
      have := ordF_neg.2 h3
      omega
    · obtain rfl : i = m := by omega
      rw [hi]
      exact decide_eq_true hz
theorem keptF_map (fs : List Fr) (g : Gr) (vs : List (List Int)) : (keptF (gone vs g.L g.n) fs).map Fr.fm = forgetM g vs (fs.map Fr.fm) := by
  unfold keptF forgetM
  rw [List.filter_map]
  rfl

/-- A node that lies at b: its blocks are F. -/
structure NodeAt (w : World) (b : Nat) (g : Gr) (p : Nat) (s : NS) (F : Nat → Prop) : Prop where
  how : ∃ G fs, Nod w b g.n g.W g.B g.L p G s.vs fs s.hs ∧ fs.map Fr.fm = s.st ∧ (∀ f ∈ fs, f.kind = 1 ∧ f.frm = p) ∧ ∀ k, F k ↔ G.foot b fs k
theorem NodeAt.alike {w w' : World} {b : Nat} {g : Gr} {p : Nat} {s : NS} {F E : Nat → Prop} (h : NodeAt w b g p s F) (ha : Alike w w' E) (hE : ∀ k, F k → ¬ E k) : NodeAt w' b g p s F := by
  obtain ⟨G, fs, h1, h2, h3, h4⟩ := h
  exact ⟨G, fs, h1.alike ha (fun k hk => hE k ((h4 k).2 hk)), h2, h3, h4⟩
theorem NodeAt.low {w w' : World} {b : Nat} {g : Gr} {p : Nat} {s : NS} {F : Nat → Prop} (h : NodeAt w b g p s F) (hb : Below w.heap.size w w') : NodeAt w' b g p s F := h.alike (Alike.of_below hb (fun _ => False)) (fun _ _ h => h)
theorem NodeAt.lt {w : World} {b : Nat} {g : Gr} {p : Nat} {s : NS} {F : Nat → Prop} (h : NodeAt w b g p s F) {k : Nat} (hk : F k) : k < w.heap.size := by
  obtain ⟨G, fs, h1, _, _, h4⟩ := h
  exact h1.foot_lt ((h4 k).1 hk)
theorem NodeAt.self {w : World} {b : Nat} {g : Gr} {p : Nat} {s : NS} {F : Nat → Prop} (h : NodeAt w b g p s F) : F b := by
  obtain ⟨G, fs, _, _, _, h4⟩ := h
  exact (h4 b).2 (foot_b _ _ _)
theorem Pks.alike {w w' : World} {base : Nat} {v : Value} {ps : List Pk} {E : Nat → Prop} (h : Pks w base v ps) (ha : Alike w w' E) (hE : ∀ k, base ≤ k → k < w.heap.size → ¬ E k) : Pks w' base v ps := by
  refine ⟨h.own.1, ?_⟩
  rcases h.own.2 with h' | ⟨g', cap', cur, he, hg, hh, hr⟩
  · exact Or.inl h'
  · exact Or.inr ⟨g', cap', cur, he, hg, (ha.block g' (lt_of_some hh) (hE g' hg (lt_of_some hh))).trans hh, hr⟩
/-- The text of a word, from p. -/
def textM (g : Gr) (p : Nat) (f : Fm) : ByteArray := txt (encR g.n g.W g.B g.L 1 p f.org f.seq f.low f.vec f.body).1
theorem textOf_eq {g : Gr} {p : Nat} {f : Fr} (h1 : f.kind = 1) (h2 : f.frm = p) : textOf g.n g.W g.B g.L f = textM g p f.fm := by
  unfold textOf textM Fr.fm
  rw [h1, h2]
def NS.sayK (g : Gr) (p : Nat) (s : NS) (k : Nat) : Nat := Proofs.YtabecbjfamphbaaGreatDoor.sayK (vw s.vs p p) (g.low s.vs p) g.W g.B g.L k
def NS.sayL (g : Gr) (p : Nat) (f : Fm) : List Pk := passL (textM g p f) p p p g.n

/-- A call of the node at b, that owned F: what it is behind it; the packets that came out; all else as it was. -/
structure Did (w w' : World) (b : Nat) (g : Gr) (p : Nat) (F : Nat → Prop) (s : NS) (v : Value) (ps : List Pk) : Prop where
  node : ∃ F', NodeAt w' b g p s F' ∧ ∀ k, F' k → F k ∨ w.heap.size ≤ k
  rest : Alike w w' F
  pks : Pks w' w.heap.size v ps
theorem Did.low {w w1 w2 : World} {b : Nat} {g : Gr} {p : Nat} {F : Nat → Prop} {s : NS} {v : Value} {ps : List Pk} (h : Did w w1 b g p F s v ps) (hb : Below w1.heap.size w1 w2) : Did w w2 b g p F s v ps := by
  obtain ⟨⟨F', h1, h2⟩, h3, h4⟩ := h
  exact ⟨⟨F', h1.low hb, h2⟩, h3.trans (Alike.of_below hb (fun _ => False)) (fun _ _ h => h.elim), h4.alike (Alike.of_below hb (fun _ => False)) (fun _ _ _ h => h)⟩
theorem Did.none {w w' : World} {b : Nat} {g : Gr} {p : Nat} {F : Nat → Prop} {s : NS} (h : NodeAt w b g p s F) (hb : Below w.heap.size w w') : Did w w' b g p F s (.slice none 0 0) [] :=
  ⟨⟨F, h.low hb, fun _ h => Or.inl h⟩, Alike.of_below hb _, Pks.nil _ _⟩
theorem Did.sl {w w' : World} {b : Nat} {g : Gr} {p : Nat} {F : Nat → Prop} {s : NS} {v : Value} {ps : List Pk} {A : Nat → Addr} {base : Nat} (h : Did w w' b g p F s v ps) (hw : Sl w A base) (hF : ∀ k, F k → base ≤ k) : Sl w' A base := hw.alike h.rest (fun k hk hc => by have := hF k hc; omega)
/-- An answer of Say: its number, the word's number, the packets, the node behind it. -/
structure SR where
  k : Nat
  q : Int
  ps : List Pk
  s : NS
def NS.say (g : Gr) (p : Nat) (s : NS) (body : ByteArray) : SR := if s.sayK g p body.size = 0 then ⟨0, vw s.vs p p + 1, NS.sayL g p (s.word g p body), s.said g p (s.word g p body)⟩ else ⟨s.sayK g p body.size, 0, [], s⟩

theorem sayK_zero {g : Gr} {p : Nat} {s : NS} {k : Nat} (h : s.sayK g p k = 0) : (k : Int) ≤ g.B ∧ vw s.vs p p < g.L ∧ vw s.vs p p - g.low s.vs p < g.W := by
  unfold NS.sayK Proofs.YtabecbjfamphbaaGreatDoor.sayK at h
  split at h
  · cases h
  · split at h
    · cases h
    · split at h
      · cases h
      · omega
set_option maxRecDepth 100000 in
set_option maxHeartbeats 2000000 in
theorem nodeSay_any (A : Nat → Addr) (base b : Nat) (g : Gr) (p : Nat) (s : NS) (F : Nat → Prop) (body : ByteArray) (hg : g.Ok) (hp : p < g.n) (hs : s.Ok g p) (w : World) (hw : Sl w A base) (hF : ∀ k, F k → base ≤ k) (h : NodeAt w b g p s F) :
    Calls Tryz.prog 93 #[.pointer (some ⟨b, 0, none⟩), .string body] w fun e w' => ∃ q v er, e = .returned (.tuple #[.int .i64 q, v, er]) ∧ IsErrA A er (s.sayK g p body.size) ∧
      (s.sayK g p body.size ≠ 0 → q = 0 ∧ v = .slice none 0 0 ∧ Below w.heap.size w w') ∧
      (s.sayK g p body.size = 0 → q = vw s.vs p p + 1 ∧ Pks w' w.heap.size v (NS.sayL g p (s.word g p body)) ∧ Alike w w' F ∧ ∃ F', NodeAt w' b g p (s.said g p (s.word g p body)) F' ∧ ∀ k, F' k → F k ∨ w.heap.size ≤ k) := by
  obtain ⟨G, fs, hN, hst, hkf, hFt⟩ := h.how
  have hcb := hs.clk.bd p p hp hp
  have hL := hg.L
  have hlb := hs.clk.low_bd hg p hp
  have hsh := hs.short hg
  have hhl := hs.clk.short hg hp
  have hn8 := hg.n.2
  have HBD : Hid (∀ q, q < g.n → 0 ≤ vw s.vs p q ∧ vw s.vs p q ≤ 65535) := fun q hq => by have := hs.clk.bd p q hp hq; omega
  have hlen : fs.length = s.st.length := by rw [← hst, List.length_map]
  have HN : Hid _ := hN
  have HW : Hid _ := hw
  have HS : Hid _ := hs
  have HFt : Hid _ := hFt
  have HF : Hid _ := hF
  have HST : Hid _ := hst
  have HKF : Hid _ := hkf
  have HKe : Hid (s.sayK g p body.size = Proofs.YtabecbjfamphbaaGreatDoor.sayK (vw s.vs p p) (lowTo s.vs g.L p g.n) g.W g.B g.L body.size) := rfl
  clear hN hw hs hFt hF hst hkf h
  generalize hK : s.sayK g p body.size = K at *
  go_enter Tryz.func93, Tryz.ntmps93
  go_wp2_with fail
  refine (checkSay_any A b g.n g.W g.B g.L p G.gv G.rows s.vs body hp hn8 w HW.out.s HN.out.nb HN.out.nv ⟨hcb.1, by omega⟩ ⟨hlb.1, Int.le_trans hlb.2 hL.2⟩).mono ?_
  rintro e w1 ⟨⟨v1, rfl, hv1⟩, hb1⟩
  rw [← HKe.out] at hv1
  have HV1 : Hid _ := hv1
  have HB1 : Hid _ := hb1
  clear hb1
  by_cases hK0 : K = 0
  · obtain rfl : v1 = .nilIface := by
      rcases hv1.how with ⟨h, _⟩ | ⟨h, _⟩ | ⟨h, _⟩
      · exact h
      · omega
      · omega
    have HK : Hid _ := HKe.out.symm.trans hK0
    have HZ0 : Hid _ := sayK_zero (hK.trans hK0)
    clear hv1
    go_wp2_with fail
    have HN1 : Hid _ := HN.out.low HB1.out
    have hbs : body.size ≤ 1000 := by
      have := HK.out
      unfold Proofs.YtabecbjfamphbaaGreatDoor.sayK at this
      have hB := hg.B
      split at this
      · cases this
      · omega
    refine (nextWord_any b g.n g.W g.B g.L p G.gv G.rows s.vs body hp hn8 hbs w1 HN1.out.nb HN1.out.nv ⟨hcb.1, by omega⟩).mono ?_
    rintro e w2 ⟨⟨vg, vcap, rfl, hown⟩, hb2⟩
    obtain ⟨f, hfe⟩ : ∃ f : Fr, f = ⟨1, p, p, vw s.vs p p + 1, lowTo s.vs g.L p g.n, some ⟨vg, 0, none⟩, vcap, s.vs.getD p [], body⟩ := ⟨_, rfl⟩
    rw [← hfe]
    have HV2 : Hid (VecAt w2 g.n f ∧ ∀ k, onB f.ad k → w1.heap.size ≤ k) := by
      rw [hfe]
      refine ⟨⟨ints_of_row hown, ?_⟩, ?_⟩
      · rcases hown.2 with ⟨h, _⟩ | ⟨g', c', cur, h, _, hh, _⟩
        · cases h
        · cases h; exact ⟨vg, cur, rfl, hh⟩
      · rintro k ⟨off, e⟩
        cases e
        rcases hown.2 with ⟨h, _⟩ | ⟨g', c', cur, h, h', _⟩
        · cases h
        · cases h; exact h'
    have HFM : Hid (f.fm = s.word g p body ∧ f.kind = 1 ∧ f.frm = p) := by rw [hfe]; exact ⟨rfl, rfl, rfl⟩
    have HOR : Hid (f.org = p) := by show _ = _; rw [hfe]
    have HSQ : Hid (f.seq = vw s.vs p p + 1) := by show _ = _; rw [hfe]
    have HBS : Hid (f.body.size ≤ maxLen) := by rw [hfe]; show body.size ≤ _; unfold maxLen; omega
    have HSl2 : Hid (Sl w2 A base) := (HW.out.low HB1.out).low hb2
    have HN2 : Hid _ := HN1.out.low hb2
    have HB2 : Hid (Below w.heap.size w w2) := bthen HB1.out hb2
    obtain ⟨m, hm⟩ := place_of (fs := fs) (by rw [HST.out]; exact HS.out.sorted) f
    have HM : Hid _ := hm
    have hal := below1 w2 (.cells #[.int .i64 f.kind, .int .i64 f.frm, .int .i64 f.org, .int .i64 f.seq, .int .i64 f.low, .slice f.ad g.n f.cap, .string f.body] 45)
    have HS7 : Hid _ := seven_alloc w2 (.int .i64 f.kind) (.int .i64 f.frm) (.int .i64 f.org) (.int .i64 f.seq) (.int .i64 f.low) (.slice f.ad g.n f.cap) (.string f.body) 45
    have HBX : Hid _ := bthen HB2.out hal
    have HSlX : Hid _ := HSl2.out.low hal
    have HNX : Hid _ := HN2.out.low hal
    have HVX : Hid _ := And.intro (HV2.out.1.low hal) HV2.out.2
    have HLT : Hid (∀ k, onB f.ad k → k < w2.heap.size) := fun k hk => by
      obtain ⟨cur, e⟩ := HV2.out.1.block hk
      exact lt_of_some e
    have HSZ : Hid (w.heap.size ≤ w1.heap.size ∧ w1.heap.size ≤ w2.heap.size) := ⟨HB1.out.size, hb2.size⟩
    have HFW : Hid (∀ k, F k → k < w.heap.size) := fun k hk => HN.out.foot_lt ((HFt.out k).1 hk)
    have hvrow : ∀ k, onB f.ad k → k ∉ G.rows := fun k hk hm => by
      have h1 := HV2.out.2 k hk
      have h2 := HN.out.foot_lt (b := b) (fs := fs) (foot_row hm)
      have h3 := HB1.out.size
      omega
    have HVR : Hid _ := hvrow
    clear hfe hown hb2 hm HN1 hal hvrow
    unfold Fr.agg
    go_wp2_with fail
    have hzX : w2.heap.size < (w2.alloc (.cells #[.int .i64 f.kind, .int .i64 f.frm, .int .i64 f.org, .int .i64 f.seq, .int .i64 f.low, .slice f.ad g.n f.cap, .string f.body] 45)).heap.size := by simp
    generalize w2.alloc (.cells #[.int .i64 f.kind, .int .i64 f.frm, .int .i64 f.org, .int .i64 f.seq, .int .i64 f.low, .slice f.ad g.n f.cap, .string f.body] 45) = X at *
    have HZ : Hid (¬ (fun k => F k ∨ onB f.ad k) w2.heap.size) := fun hc => by
      rcases hc with h | h
      · have := HFW.out _ h
        have := HSZ.out
        omega
      · have := HLT.out _ h
        omega
    have HT2 : Hid _ := NAt.begin (F := fun k => F k ∨ onB f.ad k) HNX.out (fun k hk => Or.inl ((HFt.out k).2 hk))
    refine (keep_any b g.n G.sa fs.length G.scap fs f m X HNX.out.nb.ty HNX.out.c6 HNX.out.fr (by omega) HM.out).mono ?_
    rintro e w3 ⟨rfl, hk3⟩
    obtain ⟨G3, hN3⟩ := HT2.out.kept hk3 (fun a ha => by
      rcases mem_insF ha with rfl | ha
      · exact Or.inr ⟨HVX.out.1, HVR.out, fun k hk => Or.inl (Or.inr hk)⟩
      · exact Or.inl ha)
    have HT3 : Hid _ := hN3
    have HS73 : Hid _ := HS7.out.alike hk3.rest (fun hc => HT2.out.off hzX HZ.out (foot_kept _ _ _ _ hc))
    obtain ⟨s0, s1, s2, s3, s4, s5, s6, sz⟩ := HS73.out
    clear hk3 hN3
    go_wp2_with fail
    refine (take_any b g.n g.W g.B g.L p G3.gv G3.rows s.vs G3.ha s.hs.length G3.hcap s.hs f p HOR.out hp hp w3 HT3.out.nod.nb HT3.out.nod.nv HT3.out.nod.c7 HT3.out.nod.wd (by omega)).mono ?_
    rintro e w4 ⟨rfl, ht4, hv4⟩
    obtain ⟨G4, hN4⟩ := HT3.out.took hp HBD.out hp ht4 hv4 (by have := HSQ.out; have := HZ0.out.2.1; omega)
    have HT4 : Hid _ := hN4
    have HS74 : Hid _ := HS73.out.alike ht4.rest (fun hc => HT3.out.off hzX HZ.out (foot_took HT3.out.nod hp _ hc))
    have HSl4 : Hid (Sl w4 A base) := HSlX.out.alike hN4.rest (fun k hk hc => by
      rcases hc with hc | hc
      · have := HF.out k hc; omega
      · have := HV2.out.2 k hc
        have := HF.out b ((HFt.out b).2 (foot_b _ _ _))
        have := HFW.out b ((HFt.out b).2 (foot_b _ _ _))
        have := HSZ.out
        omega)
    have c4 := hN4.nod.nb.c4
    clear ht4 hv4 hN4 s0 s1 s2 s3 s4 s5 s6 sz
    obtain ⟨s0, s1, s2, s3, s4, s5, s6, sz⟩ := HS74.out
    have HFI : Hid (f ∈ insF fs m f) := by show _ ∈ _; unfold insF; simp
    go_wp2_with fail
    have HPO : Hid (∀ x, Below w4.heap.size w4 x → Calls Tryz.prog 151 #[.pointer (some ⟨b, 0, none⟩), .agg #[.int .i64 f.kind, .int .i64 f.frm, .int .i64 f.org, .int .i64 f.seq, .int .i64 f.low, .slice f.ad g.n f.cap, .string f.body], .int .i64 (p : Int)] x fun e w' => (∃ av nv cv, e = .returned (.slice av nv cv) ∧ Pks w' w4.heap.size (.slice av nv cv) (passL (textOf g.n g.W g.B g.L f) p f.org p g.n)) ∧ Below x.heap.size x w') := fun x hx => (passOn_any (A 1) (A 5) b g.n g.W g.B g.L p G4.gv f p x (HSl4.out.low hx).sent (HT4.out.low hx).nod.nb (((HT4.out.low hx).nod.vec f HFI.out).1.ints) hn8 HBS.out).mono (by
      rintro e w' ⟨⟨v, rfl, hv⟩, hb⟩
      obtain ⟨a, c, rfl⟩ := rowShaped hv.own
      exact ⟨⟨a, _, c, rfl, hv.mono hx.size⟩, hb⟩)
    have hbz : b < w4.heap.size := lt_of_cell c4
    go_region_held3 (fun x => x.cell? ⟨b, 4, none⟩ = some (.int .i64 (p : Int)) ∧ x.cell? ⟨w2.heap.size, 0, none⟩ = some (.int .i64 f.kind) ∧ x.cell? ⟨w2.heap.size, 1, none⟩ = some (.int .i64 f.frm) ∧ x.cell? ⟨w2.heap.size, 2, none⟩ = some (.int .i64 f.org) ∧ x.cell? ⟨w2.heap.size, 3, none⟩ = some (.int .i64 f.seq) ∧ x.cell? ⟨w2.heap.size, 4, none⟩ = some (.int .i64 f.low) ∧ x.cell? ⟨w2.heap.size, 5, none⟩ = some (.slice f.ad g.n f.cap) ∧ x.cell? ⟨w2.heap.size, 6, none⟩ = some (.string f.body))
      (first | (exact ⟨c4, s0, s1, s2, s3, s4, s5, s6⟩) | (exact ⟨(HB5.out.cell (p := ⟨b, 4, none⟩) hbz).trans c4, (HB5.out.cell (p := ⟨w2.heap.size, 0, none⟩) sz).trans s0, (HB5.out.cell (p := ⟨w2.heap.size, 1, none⟩) sz).trans s1, (HB5.out.cell (p := ⟨w2.heap.size, 2, none⟩) sz).trans s2, (HB5.out.cell (p := ⟨w2.heap.size, 3, none⟩) sz).trans s3, (HB5.out.cell (p := ⟨w2.heap.size, 4, none⟩) sz).trans s4, (HB5.out.cell (p := ⟨w2.heap.size, 5, none⟩) sz).trans s5, (HB5.out.cell (p := ⟨w2.heap.size, 6, none⟩) sz).trans s6⟩) | go_keep)
      (first | (go_at_call 151; refine (HPO.out _ (Below.refl _ _).drew).mono ?_; rintro e w5 ⟨⟨av, nv, cv, rfl, hv5⟩, hb5⟩; have HB5 : Hid (Below w4.heap.size w4 w5) := (Below.refl _ _).drew.trans hb5; have HV5 : Hid _ := hv5; clear hb5 hv5))
    have HT5 : Hid _ := HT4.out.low HB5.out
    have HS75 : Hid _ := HS74.out.below HB5.out sz
    have HZ4 : Hid (X.heap.size ≤ w4.heap.size) := HT4.out.rest.size
    have HLF : Hid (∀ k, G4.foot b (insF fs m f) k → k < w4.heap.size) := fun k hk => HT4.out.nod.foot_lt hk
    clear c4 s0 s1 s2 s3 s4 s5 s6 sz
    go_wp2_with fail
    refine (forget_any b g.n g.W g.B g.L p G4.gv G4.rows (vset s.vs p p f.seq) G4.sa (insF fs m f).length G4.scap (insF fs m f) w5 HT5.out.nod.nb HT5.out.nod.nv hn8 HT5.out.nod.c6 HT5.out.nod.fr (by rw [insF_length _ _ _ HM.out.le]; omega) (fun a ha => by
      rcases mem_insF ha with rfl | ha
      · exact ⟨p, HOR.out, hp⟩
      · exact (HS.out.st a.fm (by rw [← HST.out]; exact List.mem_map_of_mem ha)).org)).mono ?_
    rintro e w6 ⟨rfl, hk6⟩
    obtain ⟨G6, hN6⟩ := HT5.out.kept hk6 (fun a ha => Or.inl (List.mem_filter.1 ha).1)
    have HT6 : Hid _ := hN6
    have HS76 : Hid _ := HS75.out.alike hk6.rest (fun hc => HT5.out.off hzX HZ.out (foot_kept _ _ _ _ hc))
    have HK6 : Hid _ := hk6
    obtain ⟨s0, s1, s2, s3, s4, s5, s6, sz⟩ := HS76.out
    clear hN6 hk6
    go_wp2_with fail
    go_ret3
    refine ⟨f.seq, _, .nilIface, rfl, ⟨Or.inl ⟨rfl, hK0⟩⟩, fun h => absurd hK0 h, fun _ => ⟨HSQ.out, ?_, ?_, ?_⟩⟩
    · have h1 := HV5.out.alike HK6.out.rest (fun k h1 h2 hE => by
        have := HLF.out k (foot_kept _ _ _ _ hE)
        omega)
      have h2 := h1.mono (b' := w.heap.size) (by have := HBX.out.size; have := HZ4.out; omega)
      rw [textOf_eq HFM.out.2.1 HFM.out.2.2, HFM.out.1, HOR.out] at h2
      exact h2
    · refine (Alike.of_below HBX.out F).trans HT6.out.rest (fun k hk hE => ?_)
      rcases hE with hE | hE
      · exact hE
      · have := HV2.out.2 k hE
        have := HSZ.out
        omega
    · refine ⟨G6.foot b (keptF (gone (vset s.vs p p f.seq) g.L g.n) (insF fs m f)), ⟨G6, _, ?_, ?_, ?_, fun _ => Iff.rfl⟩, fun k hk => ?_⟩
      · rw [← HFM.out.1]
        exact HT6.out.nod
      · rw [keptF_map, insF_map HM.out, HST.out, ← HFM.out.1]
        rfl
      · intro a ha
        rcases mem_insF (List.mem_filter.1 ha).1 with rfl | ha
        · exact HFM.out.2
        · exact HKF.out a ha
      · have hz := HBX.out.size
        rcases HT6.out.own k hk with (h | h) | h
        · exact Or.inl h
        · have := HV2.out.2 k h
          have := HSZ.out
          exact Or.inr (by omega)
        · exact Or.inr (by omega)
  · obtain ⟨t, x, rfl⟩ : ∃ t x, v1 = .iface t x := by
      rcases hv1.how with ⟨_, h⟩ | ⟨_, _, _, h⟩ | ⟨_, _, _, _, h⟩
      · exact absurd h hK0
      · exact ⟨_, _, h⟩
      · exact ⟨_, _, h⟩
    clear hv1
    go_wp2_with fail
    go_ret3
    exact ⟨0, _, _, rfl, HV1.out, fun _ => ⟨rfl, rfl, HB1.out⟩, fun h => absurd h hK0⟩
theorem nodeSay (A : Nat → Addr) (base b : Nat) (g : Gr) (p : Nat) (s : NS) (F : Nat → Prop) (body : ByteArray) (hg : g.Ok) (hp : p < g.n) (hs : s.Ok g p) (w : World) (hw : Sl w A base) (hF : ∀ k, F k → base ≤ k) (h : NodeAt w b g p s F) :
    Calls Tryz.prog 93 #[.pointer (some ⟨b, 0, none⟩), .string body] w fun e w' => ∃ v er, e = .returned (.tuple #[.int .i64 (s.say g p body).q, v, er]) ∧ IsErrA A er (s.say g p body).k ∧ Did w w' b g p F (s.say g p body).s v (s.say g p body).ps := by
  refine (nodeSay_any A base b g p s F body hg hp hs w hw hF h).mono ?_
  rintro e w' ⟨q, v, er, rfl, he, hno, hyes⟩
  unfold NS.say
  by_cases hK : s.sayK g p body.size = 0
  · obtain ⟨rfl, h1, h2, h3⟩ := hyes hK
    rw [if_pos hK]
    rw [hK] at he
    exact ⟨v, er, rfl, he, h3, h2, h1⟩
  · obtain ⟨rfl, rfl, h1⟩ := hno hK
    rw [if_neg hK]
    exact ⟨_, er, rfl, he, Did.none h h1⟩
theorem NS.Ok.say {g : Gr} {p : Nat} {s : NS} (h : s.Ok g p) (hg : g.Ok) (hp : p < g.n) (body : ByteArray) : (s.say g p body).s.Ok g p := by
  unfold NS.say
  split
  · rename_i hK
    obtain ⟨h1, h2, h3⟩ := sayK_zero hK
    exact h.said hp (NS.word_ok h hg hp h1 h2 h3) rfl rfl (by show vw s.vs p p + 1 ≤ _; omega)
  · exact h
end Go.Proofs.YtabecbjfamphbaaGreatDoor
