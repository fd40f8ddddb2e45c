/-
  A frame's seven cells.
-/
import Derived.Test.YtabecbjfamphbaaDoorRules
namespace Go.Proofs.YtabecbjfamphbaaDoor
open Go.RowKit Go.Stop Go.Extern

/-- A frame's seven cells. -/
structure Seven (g : Nat) (x : World) (v0 v1 v2 v3 v4 v5 v6 : Value) : Prop where
  c0 : x.cell? ⟨g, 0, none⟩ = some v0
  c1 : x.cell? ⟨g, 1, none⟩ = some v1
  c2 : x.cell? ⟨g, 2, none⟩ = some v2
  c3 : x.cell? ⟨g, 3, none⟩ = some v3
  c4 : x.cell? ⟨g, 4, none⟩ = some v4
  c5 : x.cell? ⟨g, 5, none⟩ = some v5
  c6 : x.cell? ⟨g, 6, none⟩ = some v6
  z : g < x.heap.size
theorem Seven.below {g : Nat} {x y : World} {v0 v1 v2 v3 v4 v5 v6 : Value} (h : Seven g x v0 v1 v2 v3 v4 v5 v6) {c : Nat} (hb : Below c x y) (hz : g < c) : Seven g y v0 v1 v2 v3 v4 v5 v6 := by
  have e : ∀ (i : Nat), y.cell? ⟨g, i, none⟩ = x.cell? ⟨g, i, none⟩ := fun i => hb.cell (p := ⟨g, i, none⟩) hz
  exact ⟨(e _).trans h.c0, (e _).trans h.c1, (e _).trans h.c2, (e _).trans h.c3, (e _).trans h.c4, (e _).trans h.c5, (e _).trans h.c6, Nat.lt_of_lt_of_le h.z hb.size⟩
theorem seven_alloc (w : World) (v0 v1 v2 v3 v4 v5 v6 : Value) (t : TypeId) : Seven w.heap.size (w.alloc (.cells #[v0, v1, v2, v3, v4, v5, v6] t)) v0 v1 v2 v3 v4 v5 v6 := by
  have e : ∀ i, (w.alloc (.cells #[v0, v1, v2, v3, v4, v5, v6] t)).cell? ⟨w.heap.size, i, none⟩ = #[v0, v1, v2, v3, v4, v5, v6][i]? := fun i => cell_of_row _ _ i _ t (0, 0) (heap_alloc_new _ _)
  exact ⟨e 0, e 1, e 2, e 3, e 4, e 5, e 6, by simp⟩

end Go.Proofs.YtabecbjfamphbaaDoor
