/-
  Texts that the proof needs, joined: Pv.
-/

/- Views as plain lists: what one number, a vector, a Low makes of them; the Low of an origin. -/
namespace Go.Proofs.YtabecbjfamphbaaGreatDoor

/-- A word that was heard. -/
structure Wd where
  org : Int
  seq : Int
  body : ByteArray
/-- The number for o in the view of q. -/
def vw (vs : List (List Int)) (q o : Nat) : Int := (vs.getD q []).getD o 0
/-- The greater of two. -/
def imax (y x : Int) : Int := if y < x then x else y
theorem imax_eq (y x : Int) : imax y x = max y x := by unfold imax; split <;> omega
/-- One number of one view another. -/
def vset (vs : List (List Int)) (q o : Nat) (x : Int) : List (List Int) := vs.set q ((vs.getD q []).set o x)
theorem getD_set {α : Type} (l : List α) (i j : Nat) (x d : α) : (l.set i x).getD j d = if i = j ∧ j < l.length then x else l.getD j d := by
  rw [List.getD_eq_getElem?_getD, List.getD_eq_getElem?_getD, List.getElem?_set]
  split
  · rename_i h
    subst h
    split
    · simp [*]
    · rename_i h
      rw [List.getElem?_eq_none (by omega), if_neg (by omega)]
  · rename_i h
    rw [if_neg (by omega)]
/-- The Low of an origin. -/
def lowTo (vs : List (List Int)) (L : Int) (o : Nat) : Nat → Int
  | 0 => L
  | k + 1 => if vw vs k o < lowTo vs L o k then vw vs k o else lowTo vs L o k
/-- What a vector tells of a node, taken in number by number. -/
def vlearn (vs : List (List Int)) (q : Nat) (v : List Int) : Nat → List (List Int)
  | 0 => vs
  | k + 1 => vset (vlearn vs q v k) q k (imax (vw (vlearn vs q v k) q k) (v.getD k 0))
/-- What a Low tells of all others. -/
def vlow (vs : List (List Int)) (p o : Nat) (x : Int) : Nat → List (List Int)
  | 0 => vs
  | k + 1 => if k = p then vlow vs p o x k else vset (vlow vs p o x k) k o (imax (vw (vlow vs p o x k) k o) x)

/-- n views of n numbers. -/
structure Shp (vs : List (List Int)) (n : Nat) : Prop where
  vlen : vs.length = n
  elen : ∀ q, q < n → (vs.getD q []).length = n
theorem Shp.vset {vs : List (List Int)} {n : Nat} (h : Shp vs n) (q o : Nat) (x : Int) : Shp (vset vs q o x) n := by
  refine ⟨by unfold Proofs.YtabecbjfamphbaaGreatDoor.vset; rw [List.length_set]; exact h.vlen, fun j hj => ?_⟩
  unfold Proofs.YtabecbjfamphbaaGreatDoor.vset
  rw [getD_set]
  split
  · rename_i e
    rw [List.length_set, e.1]; exact h.elen j hj
  · exact h.elen j hj
theorem vw_vset {vs : List (List Int)} {n : Nat} (h : Shp vs n) {q o : Nat} (hq : q < n) (ho : o < n) (x : Int) (q' o' : Nat) : vw (vset vs q o x) q' o' = if q' = q ∧ o' = o then x else vw vs q' o' := by
  unfold vw vset
  have h1 := h.vlen
  have h2 := h.elen q hq
  rw [getD_set]
  by_cases e : q = q'
  · subst e
    rw [if_pos ⟨rfl, by omega⟩, getD_set]
    by_cases e' : o = o'
    · subst e'
      rw [if_pos ⟨rfl, by omega⟩, if_pos ⟨rfl, rfl⟩]
    · rw [if_neg (fun c => e' c.1), if_neg (fun c => e' c.2.symm)]
  · rw [if_neg (fun c => e c.1), if_neg (fun c => e c.1.symm)]
theorem Shp.vlearn {vs : List (List Int)} {n : Nat} (h : Shp vs n) (q : Nat) (v : List Int) : ∀ k, Shp (vlearn vs q v k) n
  | 0 => h
  | k + 1 => (h.vlearn q v k).vset _ _ _
theorem vw_vlearn {vs : List (List Int)} {n : Nat} (h : Shp vs n) {q : Nat} (hq : q < n) (v : List Int) (k : Nat) (hk : k ≤ n) (q' o : Nat) : vw (vlearn vs q v k) q' o = if q' = q ∧ o < k then max (vw vs q' o) (v.getD o 0) else vw vs q' o := by
  induction k with
  | zero => rw [if_neg (by omega)]; rfl
  | succ k ih =>
    show vw (Proofs.YtabecbjfamphbaaGreatDoor.vset (vlearn vs q v k) q k (imax (vw (vlearn vs q v k) q k) (v.getD k 0))) q' o = _
    rw [vw_vset (h.vlearn q v k) hq (by omega), ih (by omega), imax_eq]
    by_cases e : q' = q
    · subst e
      by_cases e' : o = k
      · subst e'
        rw [if_pos ⟨rfl, rfl⟩, if_pos ⟨rfl, by omega⟩]
        have h3 := ih (by omega)
        rw [if_neg (by omega)] at h3
        rw [h3]
      · rw [if_neg (fun c => e' c.2)]
        by_cases h4 : o < k
        · rw [if_pos ⟨rfl, h4⟩, if_pos ⟨rfl, by omega⟩]
        · rw [if_neg (fun c => h4 c.2), if_neg (by omega)]
    · rw [if_neg (fun c => e c.1), if_neg (fun c => e c.1), if_neg (fun c => e c.1)]
theorem Shp.vlow {vs : List (List Int)} {n : Nat} (h : Shp vs n) (p o : Nat) (x : Int) : ∀ k, Shp (vlow vs p o x k) n
  | 0 => h
  | k + 1 => by
    unfold Proofs.YtabecbjfamphbaaGreatDoor.vlow
    split
    · exact h.vlow p o x k
    · exact (h.vlow p o x k).vset _ _ _
theorem vw_vlow {vs : List (List Int)} {n : Nat} (h : Shp vs n) {p o : Nat} (ho : o < n) (x : Int) (k : Nat) (hk : k ≤ n) (q o' : Nat) : vw (vlow vs p o x k) q o' = if q ≠ p ∧ q < k ∧ o' = o then max (vw vs q o') x else vw vs q o' := by
  induction k with
  | zero => rw [if_neg (by omega)]; rfl
  | succ k ih =>
    unfold Proofs.YtabecbjfamphbaaGreatDoor.vlow
    by_cases e : k = p
    · rw [if_pos e, ih (by omega)]
      subst e
      by_cases h1 : q ≠ k ∧ q < k ∧ o' = o
      · rw [if_pos h1, if_pos ⟨h1.1, by omega, h1.2.2⟩]
      · rw [if_neg h1, if_neg (fun c => h1 ⟨c.1, by omega, c.2.2⟩)]
    · rw [if_neg e, vw_vset (h.vlow p o x k) (by omega) ho, ih (by omega), imax_eq]
      by_cases e1 : q = k
      · subst e1
        by_cases e2 : o' = o
        · subst e2
          rw [if_pos ⟨rfl, rfl⟩, if_pos ⟨e, by omega, rfl⟩]
          have h3 := ih (by omega)
          rw [if_neg (by omega)] at h3
          rw [h3]
        · rw [if_neg (fun c => e2 c.2), if_neg (fun c => e2 c.2.2), if_neg (fun c => e2 c.2.2)]
      · rw [if_neg (fun c => e1 c.1)]
        by_cases h1 : q ≠ p ∧ q < k ∧ o' = o
        · rw [if_pos h1, if_pos ⟨h1.1, by omega, h1.2.2⟩]
        · rw [if_neg h1, if_neg (fun c => h1 ⟨c.1, by omega, c.2.2⟩)]
theorem lowTo_le_L (vs : List (List Int)) (L : Int) (o n : Nat) : lowTo vs L o n ≤ L := by
  induction n with
  | zero => exact Int.le_refl _
  | succ n ih =>
    unfold lowTo
    split <;> omega
theorem lowTo_le (vs : List (List Int)) (L : Int) (o n q : Nat) (hq : q < n) : lowTo vs L o n ≤ vw vs q o := by
  induction n with
  | zero => omega
  | succ n ih =>
    unfold lowTo
    by_cases e : q = n
    · subst e
      split <;> omega
    · have := ih (by omega)
      split <;> omega
theorem le_lowTo (vs : List (List Int)) (L x : Int) (o n : Nat) (hL : x ≤ L) (h : ∀ q, q < n → x ≤ vw vs q o) : x ≤ lowTo vs L o n := by
  induction n with
  | zero => exact hL
  | succ n ih =>
    have h1 := ih (fun q hq => h q (by omega))
    have h2 := h n (by omega)
    unfold lowTo
    split <;> omega
theorem lowTo_mono (vs vs' : List (List Int)) (L : Int) (o n : Nat) (h : ∀ q, q < n → vw vs q o ≤ vw vs' q o) : lowTo vs L o n ≤ lowTo vs' L o n :=
  le_lowTo _ _ _ _ _ (lowTo_le_L _ _ _ _) (fun q hq => Int.le_trans (lowTo_le _ _ _ _ q hq) (h q hq))
end Go.Proofs.YtabecbjfamphbaaGreatDoor
