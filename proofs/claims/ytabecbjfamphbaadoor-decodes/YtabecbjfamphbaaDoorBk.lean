/-
  The law's book between two calls.
-/
import Derived.Test.YtabecbjfamphbaaDoorKeep
namespace Go.Proofs.YtabecbjfamphbaaDoor
open Go.RowKit Go.Stop Go.Extern

theorem Mk.alike2 {w w' : World} {E : Nat → Prop} {x : Value} {m : Int} (h : Mk w x m) (ha : Alike w w' E) (hE : ∀ k, k < w.heap.size → x.ownBlock = some k → w.cell? ⟨k, 0, none⟩ = some (.int .i64 m) → ¬ E k) : Mk w' x m := by
  obtain ⟨a, n, c, rfl, hn, h0 | ⟨g, cur, rfl, hg, hc⟩⟩ := h
  · exact ⟨a, n, c, rfl, hn, Or.inl h0⟩
  · by_cases hn0 : n = 0
    · exact ⟨_, n, c, rfl, hn, Or.inl hn0⟩
    · refine ⟨_, n, c, rfl, hn, Or.inr ⟨g, cur, rfl, (ha.block g (lt_of_some hg) (hE g (lt_of_some hg) rfl ?_)).trans hg, hc⟩⟩
      rw [cell_of_row w g 0 cur 3 (0, 0) hg]
      exact hc 0 (by omega)
/-- The book, with so many lists. -/
structure BookAt (w : World) (b base k : Nat) : Prop where
  how : ∃ av cv xs, xs.length = k ∧ w.cell? ⟨b, 0, none⟩ = some (.slice av k cv) ∧ OwnS w base (.slice av k cv) xs ∧ ∀ i x, xs[i]? = some x → Mk w x (-1000 - ((i / 4 * 4 : Nat) : Int))
  c1 : w.cell? ⟨b, 1, none⟩ = some (.slice none 0 0)
  c2 : w.cell? ⟨b, 2, none⟩ = some (.slice none 0 0)
  fr : w.frozen? ⟨b, 0, none⟩ = false
  lt : b < base
  le : base ≤ w.heap.size
theorem OwnS.low {w w' : World} {base : Nat} {v : Value} {xs : List Value} (h : OwnS w base v xs) (hb : Below w.heap.size w w') : OwnS w' base v xs :=
  OwnS.alike h (Alike.of_below hb (fun _ => False)) (fun _ _ h => h)
theorem BookAt.low {w w' : World} {b base k : Nat} (h : BookAt w b base k) (hb : Below w.heap.size w w') : BookAt w' b base k := by
  obtain ⟨⟨av, cv, xs, hx, hc, ho, hm⟩, h1, h2, hf, hlt, hle⟩ := h
  have hbl : b < w.heap.size := by omega
  refine ⟨⟨av, cv, xs, hx, (hb.cell (p := ⟨b, 0, none⟩) hbl).trans hc, ho.low hb, fun i x hi => (hm i x hi).alike2 (Alike.of_below hb (fun _ => False)) (fun _ _ _ _ h => h)⟩, (hb.cell (p := ⟨b, 1, none⟩) hbl).trans h1, (hb.cell (p := ⟨b, 2, none⟩) hbl).trans h2, (hb.frozen (p := ⟨b, 0, none⟩) hbl).trans hf, hlt, Nat.le_trans hle hb.size⟩
/-- What keepInts makes of it: the old lists' blocks are those of before, the new list's is none of them. -/
theorem BookAt.kept {w w3 w' : World} {b base k : Nat} {av : Option Addr} {cv : Nat} {xs : List Value} {ao : Option Addr} {n : Nat} (hx : xs.length = k) (hc : w.cell? ⟨b, 0, none⟩ = some (.slice av k cv)) (ho : OwnS w base (.slice av k cv) xs) (hm : ∀ i x, xs[i]? = some x → Mk w x (-1000 - ((i / 4 * 4 : Nat) : Int)))
    (hlt : b < base) (hle : base ≤ w.heap.size) (hb : Below w.heap.size w w3) (hk : KeptBy w3 w' b base av cv xs ao n) (hao : ∀ g, ao = some ⟨g, 0, none⟩ → w.heap.size ≤ g) (hk4 : k % 4 = 0) : BookAt w' b base (k + 4) ∧ Below b w w' := by
  subst hx
  obtain ⟨⟨a4, c4, g1, g2, g3, hc4, ho4, m0, m1, m2, m3⟩, hrest, h1, h2, hf⟩ := hk
  refine ⟨⟨⟨a4, c4, _, by simp, hc4, ho4, ?_⟩, h1, h2, hf, hlt, Nat.le_trans hle (Nat.le_trans hb.size hrest.size)⟩, ⟨hrest.same.1.trans hb.os, hrest.same.2.1.trans hb.tape, hrest.same.2.2.trans hb.output, Nat.le_trans hb.size hrest.size, fun j hj => ?_⟩⟩
  · intro i x hi
    rcases Nat.lt_or_ge i xs.length with hlt' | hge
    · rw [List.getElem?_append_left hlt'] at hi
      have hmx := hm i x hi
      refine hmx.alike2 ((Alike.of_below hb _).trans hrest (fun _ _ h => h)) (fun j hjw hjo hjc' he => ?_)
      rcases he with rfl | ⟨g, hg, rfl⟩ | hrow
      · rw [hc] at hjc'; cases hjc'
      · have := hao _ hg; omega
      · obtain ⟨g, cap, cur, he, _⟩ : ∃ g cap cur, (Value.slice av xs.length cv) = .slice (some ⟨g, 0, none⟩) xs.length cap ∧ w.heap[g]? = some (.cells cur 24 (0, 0)) := by
          rcases ho.2 with ⟨_, h0⟩ | ⟨g, cap, cur, he, _, hh, _⟩
          · omega
          · exact ⟨g, cap, cur, he, hh⟩
        cases he
        cases hrow
        have hc0 := World.ownsRow.cellAt ho 0 (by omega)
        have hx0 : xs[0]? = some xs[0] := List.getElem?_eq_getElem (by omega)
        obtain ⟨a, n', c, hxe, _⟩ := hm 0 _ hx0
        rw [hx0, hxe] at hc0
        rw [hc0] at hjc'
        cases hjc'
    · rw [List.getElem?_append_right hge] at hi
      have h5 : i - xs.length < 4 := by
        rcases Nat.lt_or_ge (i - xs.length) 4 with h | h
        · exact h
        · rw [List.getElem?_eq_none (by simpa using h)] at hi; cases hi
      have h6 : i / 4 * 4 = xs.length := by omega
      rw [h6]
      rcases (by omega : i - xs.length = 0 ∨ i - xs.length = 1 ∨ i - xs.length = 2 ∨ i - xs.length = 3) with e | e | e | e
      all_goals
        rw [e] at hi
        simp at hi
        subst hi
        assumption
  · rw [hrest.block j (by have := hb.size; omega) (fun he => ?_)]
    · exact hb.block j (by omega)
    · rcases he with rfl | ⟨g, hg, rfl⟩ | hrow
      · omega
      · have := hao _ hg; omega
      · have := (World.ownsRow.lt ho j hrow).1; omega
end Go.Proofs.YtabecbjfamphbaaDoor
