/-
  A row of numbers in a block of its own.
-/
import Derived.Test.YtabecbjfamphbaaDoorRules
namespace Go.Proofs.YtabecbjfamphbaaDoor
open Go.RowKit Go.Stop Go.Extern

/-- A block of numbers. -/
def RowI (w : World) (g : Nat) (zs : List Int) : Prop := w.heap[g]? = some (.cells (zs.map (Value.int .i64)).toArray 3 (0, 0))
theorem RowI.cell {w : World} {g : Nat} {zs : List Int} (h : RowI w g zs) {j : Nat} (hj : j < zs.length) : w.cell? ⟨g, j, none⟩ = some (.int .i64 (zs.getD j 0)) := by
  rw [cell_of_row w g j _ 3 (0, 0) h]
  simp [List.getD_eq_getElem?_getD, hj]
theorem RowI.free {w : World} {g : Nat} {zs : List Int} (h : RowI w g zs) (j : Nat) : w.frozen? ⟨g, j, none⟩ = false := frozen_of_row w g j _ 3 h
theorem RowI.set {w : World} {g : Nat} {zs : List Int} (h : RowI w g zs) (j : Nat) (x : Int) : RowI (w.setCell ⟨g, j, none⟩ (.int .i64 x)) g (zs.set j x) := by
  have := heap_setCell_same w g j _ 3 (.int .i64 x) h
  unfold RowI
  rw [this]
  simp
theorem RowI.below {w w' : World} {g : Nat} {zs : List Int} (h : RowI w g zs) {B : Nat} (hb : Below B w w') (hg : g < B) : RowI w' g zs := (hb.block g hg).trans h
theorem RowI.lt {w : World} {g : Nat} {zs : List Int} (h : RowI w g zs) : g < w.heap.size := lt_of_some h
theorem RowI.ints {w : World} {g : Nat} {vs ms : List Int} (h : RowI w g (vs ++ ms)) : Ints w (some ⟨g, 0, none⟩) vs.length vs :=
  ⟨rfl, fun i hi => ⟨g, 0, rfl, h.lt, by
    have := h.cell (j := i) (by simp; omega)
    rw [Nat.zero_add, this]
    simp [List.getD_eq_getElem?_getD, List.getElem?_append_left hi]⟩⟩

/-- The same memory but for some blocks, and new ones. -/
structure Alike (w w' : World) (E : Nat → Prop) : Prop where
  size : w.heap.size ≤ w'.heap.size
  block : ∀ k, k < w.heap.size → ¬ E k → w'.heap[k]? = w.heap[k]?
  same : w'.os = w.os ∧ w'.tape = w.tape ∧ w'.output = w.output
theorem Alike.refl (w : World) (E : Nat → Prop) : Alike w w E := ⟨Nat.le_refl _, fun _ _ _ => rfl, rfl, rfl, rfl⟩
theorem Alike.trans {w w' w'' : World} {E E' : Nat → Prop} (h : Alike w w' E) (h' : Alike w' w'' E') (hE : ∀ k, k < w.heap.size → E' k → E k) : Alike w w'' E :=
  ⟨Nat.le_trans h.size h'.size, fun k hk hn => (h'.block k (Nat.lt_of_lt_of_le hk h.size) (fun he => hn (hE k hk he))).trans (h.block k hk hn), h'.same.1.trans h.same.1, h'.same.2.1.trans h.same.2.1, h'.same.2.2.trans h.same.2.2⟩
theorem Alike.of_below {w w' : World} (h : Below w.heap.size w w') (E : Nat → Prop) : Alike w w' E := ⟨h.size, fun k hk _ => h.block k hk, h.os, h.tape, h.output⟩
theorem Alike.of_grown {w w' : World} {row : Option Nat} (h : w.grownBy w' row) : Alike w w' (fun k => row = some k) := by
  obtain ⟨h1, h2, h3, hs, hb⟩ := h
  exact ⟨hs, fun k hk hn => hb k hk (fun e => hn e.symm), h1, h2, h3⟩
theorem Alike.alloc (w : World) (o : Obj) (E : Nat → Prop) : Alike w (w.alloc o) E := ⟨by simp, fun k hk _ => Below.heap_alloc _ _ _ hk, rfl, rfl, rfl⟩
theorem Alike.setCell (w : World) (a : Addr) (v : Value) : Alike w (w.setCell a v) (fun k => k = a.block) := ⟨by simp [World.setCell], fun k _ hn => heap_setCell_other w a k v hn, rfl, rfl, rfl⟩
theorem Alike.cell {w w' : World} {E : Nat → Prop} (h : Alike w w' E) {b i : Nat} {v : Value} (hc : w.cell? ⟨b, i, none⟩ = some v) (hE : ¬ E b) : w'.cell? ⟨b, i, none⟩ = some v := by
  rw [World.cell?_of_block (w := w) (h.block b (lt_of_cell hc) hE)]; exact hc
theorem Alike.frozen {w w' : World} {E : Nat → Prop} (h : Alike w w' E) {b i : Nat} (hb : b < w.heap.size) (hf : w.frozen? ⟨b, i, none⟩ = false) (hE : ¬ E b) : w'.frozen? ⟨b, i, none⟩ = false := by
  rw [World.frozen?_of_block (w := w) (h.block b hb hE)]; exact hf

/-- A frame's seven cells. -/
structure Seven (g : Nat) (x : World) (v0 v1 v2 v3 v4 v5 v6 : Value) : Prop where
  c0 : x.cell? ⟨g, 0, none⟩ = some v0
  c1 : x.cell? ⟨g, 1, none⟩ = some v1
  c2 : x.cell? ⟨g, 2, none⟩ = some v2
  c3 : x.cell? ⟨g, 3, none⟩ = some v3
  c4 : x.cell? ⟨g, 4, none⟩ = some v4
  c5 : x.cell? ⟨g, 5, none⟩ = some v5
  c6 : x.cell? ⟨g, 6, none⟩ = some v6
  z : g < x.heap.size
theorem Seven.below {g : Nat} {x y : World} {v0 v1 v2 v3 v4 v5 v6 : Value} (h : Seven g x v0 v1 v2 v3 v4 v5 v6) {c : Nat} (hb : Below c x y) (hz : g < c) : Seven g y v0 v1 v2 v3 v4 v5 v6 := by
  have e : ∀ (i : Nat), y.cell? ⟨g, i, none⟩ = x.cell? ⟨g, i, none⟩ := fun i => hb.cell (p := ⟨g, i, none⟩) hz
  exact ⟨(e _).trans h.c0, (e _).trans h.c1, (e _).trans h.c2, (e _).trans h.c3, (e _).trans h.c4, (e _).trans h.c5, (e _).trans h.c6, Nat.lt_of_lt_of_le h.z hb.size⟩
theorem seven_alloc (w : World) (v0 v1 v2 v3 v4 v5 v6 : Value) (t : TypeId) : Seven w.heap.size (w.alloc (.cells #[v0, v1, v2, v3, v4, v5, v6] t)) v0 v1 v2 v3 v4 v5 v6 := by
  have e : ∀ i, (w.alloc (.cells #[v0, v1, v2, v3, v4, v5, v6] t)).cell? ⟨w.heap.size, i, none⟩ = #[v0, v1, v2, v3, v4, v5, v6][i]? := fun i => cell_of_row _ _ i _ t (0, 0) (heap_alloc_new _ _)
  exact ⟨e 0, e 1, e 2, e 3, e 4, e 5, e 6, by simp⟩

end Go.Proofs.YtabecbjfamphbaaDoor
