/-
  Texts that the proofs of this seat share, joined: Sa.
-/
import Derived.Test.YtabecbjfamphbaaGreatDoorEKx
import Derived.Test.YtabecbjfamphbaaGreatDoorEKw
import Derived.Test.YtabecbjfamphbaaGreatDoorERa
/- hearsaykeep: freed. -/
namespace Go.Proofs.YtabecbjfamphbaaGreatDoor
open Go.RowKit Go.Stop Go.Extern

/-- What freed asks of a node. -/
structure FreedOk (g : Gr) (x : MNet) (sd : List Sd) (p : Nat) : Prop where
  all : ∀ s ∈ sd, (⟨s.org, s.seq, s.body⟩ : Wd) ∈ (x.nd p).hs → (⟨s.org, s.seq, s.body⟩ : Wd) ∉ (x.nd p).kept → ∃ o : Nat, s.org = o ∧ o < g.n ∧ ∀ q, q < g.n → s.seq ≤ (cntW (x.nd q).hs o : Int)
  said : ∀ (i : Nat) (t : Wd), (x.nd p).kept[i]? = some t → (∃ o : Nat, t.org = o ∧ o < g.n ∧ (cntW (x.nd p).kept o : Int) ≤ g.W) ∧ (∃ s ∈ sd, s.org = t.org ∧ s.seq = t.seq) ∧ ∀ s ∈ sd, s.org = t.org → s.seq = t.seq → s.body = t.body
  sort : ∀ (i : Nat) (t u : Wd), (x.nd p).kept[i]? = some t → (x.nd p).kept[i + 1]? = some u → t.org < u.org ∨ (t.org = u.org ∧ t.seq < u.seq)
theorem HV.le {g : Gr} {said : List Fm} {hs : List Wd} (h : HV g said hs) (hok : ∀ f ∈ said, f.Ok g) : ∀ t ∈ hs, t.seq ≤ (cntW hs t.org.toNat : Int) := by
  induction h with
  | none => exact fun t ht => by cases ht
  | more h0 hf hsq hvec ih =>
    rename_i hs f
    have hfo := (hok f hf).org_eq
    intro t ht
    rw [cntW_append]
    rcases List.mem_append.1 ht with h1 | h1
    · have := ih t h1
      split <;> omega
    · rw [List.mem_singleton] at h1
      subst h1
      have e : f.word.org = ((f.word.org.toNat : Nat) : Int) := by show f.org = _; exact hfo.symm
      rw [if_pos e]
      show f.seq ≤ _
      rw [show f.word.org.toNat = f.org.toNat from rfl]
      omega
theorem cntW_kept (s : NS) (o : Nat) : cntW s.kept o = (s.st.filter (fun f => decide (f.org = (o : Int)))).length := by
  unfold cntW NS.kept
  rw [List.countP_map, List.countP_eq_length_filter]
  rfl
theorem Run.freed {g : Gr} {x : MNet} {sd : List Sd} {sn : List Sn} {bag : List (Nat × Msg)} {said : List Fm} {m : Nat} (h : Run g x sd sn bag said m) (hg : g.Ok) {p : Nat} (hp : p < g.n) : FreedOk g x sd p := by
  have hI := h.net.inv
  have hof : ∀ s ∈ sd, ∃ f ∈ said, SdOf g.n s f := fun s hs => by
    obtain ⟨j, hj⟩ := List.mem_iff_getElem?.1 hs
    have hjl := (List.getElem?_eq_some_iff.1 hj).1
    have hl := h.len
    have hjf : said[j]? = some said[j] := List.getElem?_eq_getElem (by omega)
    exact ⟨_, List.mem_of_getElem? hjf, h.same j s _ hj hjf⟩
  have hsd : ∀ f ∈ said, ∃ s ∈ sd, SdOf g.n s f := fun f hf => by
    obtain ⟨j, hj⟩ := List.mem_iff_getElem?.1 hf
    have hjl := (List.getElem?_eq_some_iff.1 hj).1
    have hl := h.len
    have hjs : sd[j]? = some sd[j] := List.getElem?_eq_getElem (by omega)
    exact ⟨_, List.mem_of_getElem? hjs, h.same j _ f hjs hj⟩
  have hkp : ∀ t ∈ (x.nd p).kept, ∃ f ∈ (x.nd p).st, f.word = t := fun t ht => List.mem_map.1 ht
  refine ⟨fun s hs hm hk => ?_, fun i t hi => ?_, fun i t u hi hu => ?_⟩
  · obtain ⟨f, hf, h1, h2, h3, _⟩ := hof s hs
    have hw : f.word = (⟨s.org, s.seq, s.body⟩ : Wd) := by unfold Fm.word; rw [h1, h2, h3]
    have hfo := hI.sok f hf
    refine ⟨f.org.toNat, h1.trans hfo.org_eq.symm, hfo.lt, fun q hq => ?_⟩
    have hle := (hI.heard p hp).le hI.sok _ hm
    have hc : f.seq ≤ clk x.nd p f.org.toNat := by
      show f.seq ≤ vw (x.nd p).vs p f.org.toNat
      rw [(hI.ok p hp).clk.cnt _ hfo.lt, ← h2]
      have e : (⟨s.org, s.seq, s.body⟩ : Wd).org.toNat = f.org.toNat := by show s.org.toNat = _; rw [h1]
      rw [e] at hle
      exact hle
    have hns : f ∉ (x.nd p).st := fun hc' => hk (by rw [← hw]; exact List.mem_map.2 ⟨f, hc', rfl⟩)
    have h4 := hI.freed hp hq hf hc hns
    rw [h2]
    rw [← (hI.ok q hq).clk.cnt _ hfo.lt]
    exact h4
  · obtain ⟨f, hf, rfl⟩ := hkp t (List.mem_of_getElem? hi)
    have hfs := hI.st p hp f hf
    have hfo := hI.sok f hfs
    refine ⟨⟨f.org.toNat, hfo.org_eq.symm, hfo.lt, ?_⟩, ?_, fun s hs ho hq => ?_⟩
    · rw [cntW_kept]
      have h1 := (hI.ok p hp).few f.org.toNat
      have h2 := hg.W
      omega
    · obtain ⟨s, hs, h1, h2, _⟩ := hsd f hfs
      exact ⟨s, hs, h1, h2⟩
    · obtain ⟨f', hf', h1, h2, h3, _⟩ := hof s hs
      have e : f' = f := dist_eq hI.dist hf' hfs ⟨h1.symm.trans ho, h2.symm.trans hq⟩
      rw [h3, e]
      rfl
  · have hso := (hI.ok p hp).sorted
    unfold NS.kept at hi hu
    rw [List.getElem?_map] at hi hu
    cases hf1 : (x.nd p).st[i]? with
    | none => rw [hf1] at hi; cases hi
    | some f1 =>
      cases hf2 : (x.nd p).st[i + 1]? with
      | none => rw [hf2] at hu; cases hu
      | some f2 =>
        rw [hf1] at hi
        rw [hf2] at hu
        simp at hi hu
        subst hi hu
        obtain ⟨l1, e1⟩ := List.getElem?_eq_some_iff.1 hf1
        obtain ⟨l2, e2⟩ := List.getElem?_eq_some_iff.1 hf2
        have := List.pairwise_iff_getElem.1 hso i (i + 1) l1 l2 (by omega)
        rw [e1, e2] at this
        exact this
end Go.Proofs.YtabecbjfamphbaaGreatDoor
