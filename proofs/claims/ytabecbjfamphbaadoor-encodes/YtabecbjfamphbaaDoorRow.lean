/-
  A row of numbers in a block of its own.
-/
import Derived.Test.YtabecbjfamphbaaDoorRules
namespace Go.Proofs.YtabecbjfamphbaaDoor
open Go.RowKit Go.Stop Go.Extern

/-- A block of numbers. -/
def RowI (w : World) (g : Nat) (zs : List Int) : Prop := w.heap[g]? = some (.cells (zs.map (Value.int .i64)).toArray 3 (0, 0))
theorem RowI.cell {w : World} {g : Nat} {zs : List Int} (h : RowI w g zs) {j : Nat} (hj : j < zs.length) : w.cell? ⟨g, j, none⟩ = some (.int .i64 (zs.getD j 0)) := by
  rw [cell_of_row w g j _ 3 (0, 0) h]
  simp [List.getD_eq_getElem?_getD, hj]
theorem RowI.free {w : World} {g : Nat} {zs : List Int} (h : RowI w g zs) (j : Nat) : w.frozen? ⟨g, j, none⟩ = false := frozen_of_row w g j _ 3 h
theorem RowI.set {w : World} {g : Nat} {zs : List Int} (h : RowI w g zs) (j : Nat) (x : Int) : RowI (w.setCell ⟨g, j, none⟩ (.int .i64 x)) g (zs.set j x) := by
  have := heap_setCell_same w g j _ 3 (.int .i64 x) h
  unfold RowI
  rw [this]
  simp
theorem RowI.below {w w' : World} {g : Nat} {zs : List Int} (h : RowI w g zs) {B : Nat} (hb : Below B w w') (hg : g < B) : RowI w' g zs := (hb.block g hg).trans h
theorem RowI.lt {w : World} {g : Nat} {zs : List Int} (h : RowI w g zs) : g < w.heap.size := lt_of_some h
theorem RowI.ints {w : World} {g : Nat} {vs ms : List Int} (h : RowI w g (vs ++ ms)) : Ints w (some ⟨g, 0, none⟩) vs.length vs :=
  ⟨rfl, fun i hi => ⟨g, 0, rfl, h.lt, by
    have := h.cell (j := i) (by simp; omega)
    rw [Nat.zero_add, this]
    simp [List.getD_eq_getElem?_getD, List.getElem?_append_left hi]⟩⟩
end Go.Proofs.YtabecbjfamphbaaDoor
