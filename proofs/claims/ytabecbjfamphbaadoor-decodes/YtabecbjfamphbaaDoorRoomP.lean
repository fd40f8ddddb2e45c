/-
  Rooms.
-/
import Derived.Test.YtabecbjfamphbaaDoorRVec
import Derived.Deep.RegionWith
namespace Go.Proofs.YtabecbjfamphbaaDoor
open Go.RowKit Go.Stop Go.Extern

/-- A frame's value, whatever it holds. -/
def FrV (fv : Value) : Prop := ∃ (K F O S Lw : Int) (ad : Option Addr) (len cap : Nat) (body : ByteArray), fv = .agg #[.int .i64 K, .int .i64 F, .int .i64 O, .int .i64 S, .int .i64 Lw, .slice ad len cap, .string body]
/-- A frame that was read: its vector lies in a block of its own. -/
structure Got (w' : World) (base n : Nat) (K F O S Lw : Int) (vs : List Int) (body : ByteArray) (fv : Value) : Prop where
  is : ∃ g, base ≤ g ∧ fv = .agg #[.int .i64 K, .int .i64 F, .int .i64 O, .int .i64 S, .int .i64 Lw, .slice (some ⟨g, 0, none⟩) n n, .string body] ∧ RowI w' g vs
def rState2 (n : Nat) (L : Int) (s : ByteArray) : Option (Option Int) := if (s.size : Int) = 9 + 2 * n then rVec n L 2 0 0 (vecOf s 5 n) else some (some s.size)

theorem below_set7 {B : Nat} {a w : World} (h : Below B a w) {b : Nat} (hb : B ≤ b) (v0 v1 v2 v3 v4 v5 v6 : Value) :
    Below B a (((((((w.setCell ⟨b, 0, none⟩ v0).setCell ⟨b, 1, none⟩ v1).setCell ⟨b, 2, none⟩ v2).setCell ⟨b, 3, none⟩ v3).setCell ⟨b, 4, none⟩ v4).setCell ⟨b, 5, none⟩ v5).setCell ⟨b, 6, none⟩ v6) :=
  ((((((h.setCell hb _).setCell hb _).setCell hb _).setCell hb _).setCell hb _).setCell hb _).setCell hb _
theorem RowI.other {w : World} {g : Nat} {zs : List Int} (h : RowI w g zs) (a : Addr) (v : Value) (hne : g ≠ a.block) : RowI (w.setCell a v) g zs := (heap_setCell_other w a g v hne).trans h
theorem RowI.set7 {w : World} {g : Nat} {zs : List Int} (h : RowI w g zs) {b : Nat} (hne : g ≠ b) (v0 v1 v2 v3 v4 v5 v6 : Value) :
    RowI (((((((w.setCell ⟨b, 0, none⟩ v0).setCell ⟨b, 1, none⟩ v1).setCell ⟨b, 2, none⟩ v2).setCell ⟨b, 3, none⟩ v3).setCell ⟨b, 4, none⟩ v4).setCell ⟨b, 5, none⟩ v5).setCell ⟨b, 6, none⟩ v6) g zs :=
  ((((((h.other _ _ hne).other _ _ hne).other _ _ hne).other _ _ hne).other _ _ hne).other _ _ hne).other _ _ hne
/-- The result's cells are there, and what is written into them is read back. -/
structure Room (z : Nat) (x : World) : Prop where
  r : ∀ i, i < 7 → ∃ v, x.cell? ⟨z + 1 + 1, i, none⟩ = some v
  f1 : ∀ i, x.frozen? ⟨z + 1, i, none⟩ = false
  f2 : ∀ i, x.frozen? ⟨z + 1 + 1, i, none⟩ = false
  z : z + 1 + 1 < x.heap.size
theorem Room.below {z : Nat} {x y : World} (h : Room z x) {b : Nat} (hb : Below b x y) (hz : z + 1 + 1 < b) : Room z y :=
  ⟨fun i hi => by obtain ⟨v, hv⟩ := h.r i hi; exact ⟨v, (hb.cell (p := ⟨z + 1 + 1, i, none⟩) hz).trans hv⟩, fun i => (hb.frozen (p := ⟨z + 1, i, none⟩) (by show z + 1 < b; omega)).trans (h.f1 i), fun i => (hb.frozen (p := ⟨z + 1 + 1, i, none⟩) hz).trans (h.f2 i), Nat.lt_of_lt_of_le h.z hb.size⟩
theorem frozen_set (w : World) (a p : Addr) (v : Value) : (w.setCell a v).frozen? p = w.frozen? p := by
  go_simp
theorem Room.store {z : Nat} {x : World} (h : Room z x) (i : Nat) (v : Value) : Room z (x.setCell ⟨z + 1, i, none⟩ v) :=
  ⟨fun j hj => by
    obtain ⟨u, hu⟩ := h.r j hj
    exact ⟨u, (World.cell?_of_block (w := x) (a := ⟨z + 1 + 1, j, none⟩) (heap_setCell_other x ⟨z + 1, i, none⟩ (z + 1 + 1) v (by show z + 1 + 1 ≠ z + 1; omega))).trans hu⟩,
   fun j => (frozen_set _ _ _ _).trans (h.f1 j), fun j => (frozen_set _ _ _ _).trans (h.f2 j), by simpa [World.setCell] using h.z⟩
theorem Room.seven {z : Nat} {x : World} (h : Room z x) (v0 v1 v2 v3 v4 v5 v6 : Value) (X : World)
    (hX : X = (((((((x.setCell ⟨z + 1 + 1, 0, none⟩ v0).setCell ⟨z + 1 + 1, 1, none⟩ v1).setCell ⟨z + 1 + 1, 2, none⟩ v2).setCell ⟨z + 1 + 1, 3, none⟩ v3).setCell ⟨z + 1 + 1, 4, none⟩ v4).setCell ⟨z + 1 + 1, 5, none⟩ v5).setCell ⟨z + 1 + 1, 6, none⟩ v6)) :
    X.cell? ⟨z + 1 + 1, 0, none⟩ = some v0 ∧ X.cell? ⟨z + 1 + 1, 1, none⟩ = some v1 ∧ X.cell? ⟨z + 1 + 1, 2, none⟩ = some v2 ∧ X.cell? ⟨z + 1 + 1, 3, none⟩ = some v3 ∧ X.cell? ⟨z + 1 + 1, 4, none⟩ = some v4 ∧ X.cell? ⟨z + 1 + 1, 5, none⟩ = some v5 ∧ X.cell? ⟨z + 1 + 1, 6, none⟩ = some v6 := by
  obtain ⟨u0, h0⟩ := h.r 0 (by omega)
  obtain ⟨u1, h1⟩ := h.r 1 (by omega)
  obtain ⟨u2, h2⟩ := h.r 2 (by omega)
  obtain ⟨u3, h3⟩ := h.r 3 (by omega)
  obtain ⟨u4, h4⟩ := h.r 4 (by omega)
  obtain ⟨u5, h5⟩ := h.r 5 (by omega)
  obtain ⟨u6, h6⟩ := h.r 6 (by omega)
  subst hX
  refine ⟨?_, ?_, ?_, ?_, ?_, ?_, ?_⟩ <;> go_simp
theorem room_start (w : World) (oc : Obj) (f r : Array Value) (tf tr : TypeId) (hr : r.size = 7) : Room w.heap.size (((w.alloc oc).alloc (.cells f tf)).alloc (.cells r tr)) := by
  have e : ((w.alloc oc).alloc (.cells f tf)).heap.size = w.heap.size + 1 + 1 := by simp
  refine ⟨fun i hi => ⟨r[i]'(by omega), ?_⟩, fun i => ?_, fun i => ?_, by simp⟩
  · rw [← e, cell_of_row _ _ i r tr (0, 0) (heap_alloc_new _ _)]
    exact Array.getElem?_eq_getElem _
  · have := frozen_of_row (((w.alloc oc).alloc (.cells f tf)).alloc (.cells r tr)) (w.heap.size + 1) i f tf (by
      rw [Below.heap_alloc _ _ _ (by simp)]
      have := heap_alloc_new (w.alloc oc) (.cells f tf)
      simpa using this)
    exact this
  · have := frozen_of_row (((w.alloc oc).alloc (.cells f tf)).alloc (.cells r tr)) (w.heap.size + 1 + 1) i r tr (by
      have := heap_alloc_new ((w.alloc oc).alloc (.cells f tf)) (.cells r tr)
      rw [e] at this
      exact this)
    exact this
theorem cell_other {w : World} {a b : Addr} {x v : Value} (h : w.cell? b = some x) (hne : b.block ≠ a.block) : (w.setCell a v).cell? b = some x := by
  rw [World.cell?_of_block (w := w) (heap_setCell_other w a b.block v hne)]; exact h
theorem Boxes.vec {z : Nat} {x : World} {N W B L K F O S Lw : Int} {ad ad' : Option Addr} {len cap len' cap' : Nat} {body : ByteArray} (h : Boxes z x N W B L K F O S Lw ad len cap body) :
    Boxes z (x.setCell ⟨z + 1, 5, none⟩ (.slice ad' len' cap')) N W B L K F O S Lw ad' len' cap' body := by
  obtain ⟨c1, c2, c3, c4, c5, c6, c7, c8, c9, c10, c11, c12⟩ := h
  refine ⟨cell_other c1 (by show z ≠ z + 1; omega), cell_other c2 (by show z ≠ z + 1; omega), cell_other c3 (by show z ≠ z + 1; omega), cell_other c4 (by show z ≠ z + 1; omega), ?_, ?_, ?_, ?_, ?_, ?_, ?_, ?_⟩ <;> go_simp
end Go.Proofs.YtabecbjfamphbaaDoor
