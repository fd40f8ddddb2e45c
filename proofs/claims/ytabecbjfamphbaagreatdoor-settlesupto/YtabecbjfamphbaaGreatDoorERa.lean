/-
  Texts that the proofs of this seat share, joined: Ra.
-/
import Derived.Test.YtabecbjfamphbaaGreatDoorB37
/- What a round makes of a circle, as plain data. -/
namespace Go.Proofs.YtabecbjfamphbaaGreatDoor
open Go.RowKit Go.Stop Go.Extern

section
variable {g : Gr} {x : MNet} {sd : List Sd} {sn : List Sn} {bag : List (Nat × Msg)} {said : List Fm} {m : Nat}
theorem Run.ok2 (h : Run g x sd sn bag said m) (hg : g.Ok) (hm : m ≤ 190000000) : x.Ok g := ⟨h.net.inv.ok, fun t ht => ⟨(h.text hg t ht).1, (h.text hg t ht).2.1⟩, fun p hp => ⟨(h.ref p hp).1, by have := (h.ref p hp).2; omega⟩, by
  have := h.few
  rw [h.enc, List.length_map]
  omega⟩
/-- A circle amid a round that began with the nodes nd0. -/
structure Rnd (g : Gr) (nd0 : Nat → NS) (x : MNet) (sd : List Sd) (sn : List Sn) (bag : List (Nat × Msg)) (said : List Fm) (m : Nat) : Prop where
  run : Run g x sd sn bag said m
  p1 : Pend1 g x.nd bag said
  p2 : Pend2 g x.nd bag (clk nd0)
  up : ∀ r o, r < g.n → o < g.n → clk nd0 r o ≤ clk x.nd r o
noncomputable def potR (g : Gr) (x : MNet) (bag : List (Nat × Msg)) (said : List Fm) : Nat := bag.length + g.n * lacks g x.nd said
theorem deliver_nd2 (g : Gr) (x : MNet) (k to : Nat) (y : Msg) : (x.deliver g k (encP g (to, y))).nd = upd x.nd to ((x.nd to).hear g to (y.text g)).s := by
  unfold MNet.deliver
  show MNet.nd (let r := (x.nd ((to : Int).toNat)).hear g ((to : Int).toNat) (y.text g); let z : MNet := { x.put ((to : Int).toNat) r.s with bag := x.bag.eraseIdx k ++ r.ps }; if r.k = 0 then z else z.refuse ((to : Int).toNat)) = _
  rw [Int.toNat_natCast]
  simp only
  split <;> rfl
theorem Rnd.begin (h : Run g x sd sn bag said m) (hb : ∀ p, p < g.n → ∀ y ∈ tickM g p (x.nd p), y ∈ bag) : Rnd g x.nd x sd sn bag said m := by
  obtain ⟨h1, h2⟩ := tick_pend h.net.inv hb
  exact ⟨h, h1, h2, fun _ _ _ _ => Int.le_refl _⟩
theorem Rnd.deliver {nd0 : Nat → NS} (h : Rnd g nd0 x sd sn bag said m) (hg : g.Ok) {k to : Nat} {y : Msg} (hk : bag[k]? = some (to, y)) :
    (((x.nd to).hear g to (y.text g)).k = 0 ∨ ((x.nd to).hear g to (y.text g)).k = 7) ∧ ∃ bag', Rnd g nd0 (x.deliver g k (encP g (to, y))) sd sn bag' said (m + 1) ∧ potR g (x.deliver g k (encP g (to, y))) bag' said + 1 ≤ potR g x bag said := by
  obtain ⟨h1, h2⟩ := h.run.deliver hg hk
  refine ⟨h1, bag.eraseIdx k ++ ((x.nd to).hearM g to y).2.1, ?_⟩
  have hgd := h.run.net.good _ (List.mem_of_getElem? hk)
  have hms := GoodP.msg h.run.net.inv hgd
  have hh := hear_text hg (p := to) (s := x.nd to) hms
  obtain ⟨hs, _⟩ := h.run.net.deliver hk
  have hnd : (x.deliver g k (encP g (to, y))).nd = upd x.nd to ((x.nd to).hearM g to y).2.2 := by rw [deliver_nd2, hh]
  have hpot := hs.pot hgd.to
  have hkl := (List.getElem?_eq_some_iff.1 hk).1
  refine ⟨⟨h2, ?_, ?_, ?_⟩, ?_⟩
  · rw [hnd]
    exact h.p1.step hk hs
  · rw [hnd]
    exact h.p2.step hk hs
  · rw [hnd]
    exact fun r o hr ho => Int.le_trans (h.up r o hr ho) (hs.clk r o hr ho)
  · unfold potR
    rw [hnd, List.length_append, List.length_eraseIdx, if_pos hkl]
    omega
end
theorem countP_one {l : List Fm} (hd : l.Pairwise (fun a b => ¬ SameK a b)) {f : Fm} (hf : f ∈ l) {p p' : Fm → Bool} (h0 : p f = false) (h1 : p' f = true) (hne : ∀ a ∈ l, ¬ SameK a f → p' a = p a) : l.countP p' = l.countP p + 1 := by
  induction l with
  | nil => cases hf
  | cons a l ih =>
    obtain ⟨ha, hl⟩ := List.pairwise_cons.1 hd
    rcases List.mem_cons.1 hf with e | e
    · subst e
      have hc : l.countP p' = l.countP p := List.countP_congr fun b hb => by
        rw [hne b (List.mem_cons_of_mem _ hb) (fun hs => ha b hb ⟨hs.1.symm, hs.2.symm⟩)]
      rw [List.countP_cons_of_pos h1, List.countP_cons_of_neg (by simp [h0]), hc]
    · have hi := ih hl e (fun b hb => hne b (List.mem_cons_of_mem _ hb))
      have hpa := hne a List.mem_cons_self (ha f e)
      rw [List.countP_cons, List.countP_cons, hpa, hi]
      omega
theorem HV.count {g : Gr} {said : List Fm} {hs : List Wd} (h : HV g said hs) (hok : ∀ f ∈ said, f.Ok g) (hd : said.Pairwise (fun a b => ¬ SameK a b)) : hs.length = said.countP (fun f => decide (f.seq ≤ (cntW hs f.org.toNat : Int))) := by
  induction h with
  | none =>
    symm
    rw [List.length_nil, List.countP_eq_zero]
    intro f hf hc
    have h1 := of_decide_eq_true hc
    have h2 := (hok f hf).seq.1
    simp [cntW] at h1
    omega
  | more h0 hf hsq hvec ih =>
    rename_i hs f
    have hfo := (hok f hf).org_eq
    have hcn : ∀ a ∈ said, cntW (hs ++ [f.word]) a.org.toNat = cntW hs a.org.toNat + if f.org = a.org then 1 else 0 := fun a ha => by
      rw [cntW_append, (hok a ha).org_eq]
      rfl
    rw [List.length_append, ih]
    symm
    refine countP_one hd hf (decide_eq_false (by omega)) (decide_eq_true (by rw [hcn f hf, if_pos rfl]; omega)) (fun a ha hns => ?_)
    rw [hcn a ha]
    by_cases e : f.org = a.org
    · rw [if_pos e]
      have hne : a.seq ≠ f.seq := fun e2 => hns ⟨e.symm, e2⟩
      have e' : a.org.toNat = f.org.toNat := by rw [e]
      rw [e'] at *
      apply decide_eq_decide.2
      constructor <;> intro h <;> omega
    · rw [if_neg e]
      simp
/-- Who has heard all has heard as many words as were said. -/
theorem all_heard {g : Gr} {nd : Nat → NS} {said : List Fm} (h : Inv g nd said) {p : Nat} (hp : p < g.n) (hall : ∀ f ∈ said, f.seq ≤ clk nd p f.org.toNat) : (nd p).hs.length = said.length := by
  rw [(h.heard p hp).count h.sok h.dist, List.countP_eq_length]
  intro f hf
  have h1 := hall f hf
  have h2 := (h.ok p hp).clk.cnt f.org.toNat (h.sok f hf).lt
  unfold clk at h1
  exact decide_eq_true (by omega)
theorem lacks_none {g : Gr} {nd : Nat → NS} {said : List Fm} (hall : ∀ p f, p < g.n → f ∈ said → f.seq ≤ clk nd p f.org.toNat) : lacks g nd said = 0 := by
  have h : lacks g nd said ≤ g.n * 0 := total_le (fun q hq => by
    refine Nat.le_of_eq (List.countP_eq_zero.2 fun f hf hc => ?_)
    exact @of_decide_eq_true _ (Classical.propDecidable _) hc (Or.inl (hall q f hq hf)))
  omega
/-- Between the two rounds: all have heard all. -/
theorem Rnd.end1 {g : Gr} {nd0 : Nat → NS} {x : MNet} {sd : List Sd} {sn : List Sn} {said : List Fm} {m : Nat} (h : Rnd g nd0 x sd sn [] said m) : (∀ p, p < g.n → (x.nd p).hs.length = sd.length) ∧ (∀ p f, p < g.n → f ∈ said → f.seq ≤ clk x.nd p f.org.toNat) := by
  obtain ⟨h1, _⟩ := round1 h.run.net.inv h.p1
  exact ⟨fun p hp => by rw [h.run.len]; exact all_heard h.run.net.inv hp (fun f hf => h1 p f hp hf), h1⟩
/-- Behind the second: no store keeps a word. -/
theorem Rnd.end2 {g : Gr} {nd0 : Nat → NS} {x : MNet} {sd : List Sd} {sn : List Sn} {said : List Fm} {m : Nat} (h : Rnd g nd0 x sd sn [] said m) (h0 : ∀ p f, p < g.n → f ∈ said → f.seq ≤ clk nd0 p f.org.toNat) : ∀ p, p < g.n → (x.nd p).kept = [] ∧ g.low (x.nd p).vs p = vw (x.nd p).vs p p := by
  intro p hp
  obtain ⟨h1, h2⟩ := round2 h.run.net.inv (C := clk nd0) h0 h.up (fun q o hq ho => Int.le_trans (h.up q o hq ho) ((h.run.net.inv.ok q hq).clk.bd q o hq ho).2) h.p2 p hp
  exact ⟨by unfold NS.kept; rw [h1]; rfl, h2⟩
end Go.Proofs.YtabecbjfamphbaaGreatDoor
