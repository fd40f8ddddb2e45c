/-
  The law Reread: its group and its frames in memory, written over and over.
-/
import Derived.Test.YtabecbjfamphbaaDoorRer0
namespace Go.Proofs.YtabecbjfamphbaaDoor
open Go.RowKit Go.Stop Go.Extern

/-- The same memory but for one block. -/
structure Off (x y : World) (b : Nat) : Prop where
  size : y.heap.size = x.heap.size
  block : ∀ k, k ≠ b → y.heap[k]? = x.heap[k]?
theorem off_set (x : World) (b i : Nat) (v : Value) : Off x (x.setCell ⟨b, i, none⟩ v) b := ⟨by simp [World.setCell], fun k hk => heap_setCell_other x ⟨b, i, none⟩ k v hk⟩
theorem Off.trans {x y z : World} {b : Nat} (h : Off x y b) (k : Off y z b) : Off x z b := ⟨k.size.trans h.size, fun j hj => (k.block j hj).trans (h.block j hj)⟩
theorem off_set4 (x : World) (b : Nat) (v0 v1 v2 v3 : Value) : Off x ((((x.setCell ⟨b, 0, none⟩ v0).setCell ⟨b, 1, none⟩ v1).setCell ⟨b, 2, none⟩ v2).setCell ⟨b, 3, none⟩ v3) b :=
  (((off_set _ _ _ _).trans (off_set _ _ _ _)).trans (off_set _ _ _ _)).trans (off_set _ _ _ _)
theorem off_set7 (x : World) (b : Nat) (v0 v1 v2 v3 v4 v5 v6 : Value) : Off x (((((((x.setCell ⟨b, 0, none⟩ v0).setCell ⟨b, 1, none⟩ v1).setCell ⟨b, 2, none⟩ v2).setCell ⟨b, 3, none⟩ v3).setCell ⟨b, 4, none⟩ v4).setCell ⟨b, 5, none⟩ v5).setCell ⟨b, 6, none⟩ v6) b :=
  ((((((off_set _ _ _ _).trans (off_set _ _ _ _)).trans (off_set _ _ _ _)).trans (off_set _ _ _ _)).trans (off_set _ _ _ _)).trans (off_set _ _ _ _)).trans (off_set _ _ _ _)
theorem Off.cell {x y : World} {b c i : Nat} {v : Value} (h : Off x y b) (hc : x.cell? ⟨c, i, none⟩ = some v) (hne : c ≠ b) : y.cell? ⟨c, i, none⟩ = some v := by
  rw [World.cell?_of_block (w := x) (h.block c hne)]; exact hc
theorem Ints.off {x y : World} {b : Nat} {ad : Option Addr} {n : Nat} {vs : List Int} (h : Ints x ad n vs) (ho : Off x y b) (hne : 0 < n → ∀ c off, ad = some ⟨c, off, none⟩ → c ≠ b) : Ints y ad n vs :=
  ⟨h.len, fun i hi => by
    obtain ⟨c, off, e, hl, hc⟩ := h.cell i hi
    exact ⟨c, off, e, by rw [ho.size]; exact hl, ho.cell hc (hne (by omega) c off e)⟩⟩
theorem RowI.off {x y : World} {b g : Nat} {zs : List Int} (h : RowI x g zs) (ho : Off x y b) (hne : g ≠ b) : RowI y g zs := (ho.block g hne).trans h
/-- A group in memory. -/
structure Cf (z : Nat) (x : World) (N W B L : Int) : Prop where
  c0 : x.cell? ⟨z, 0, none⟩ = some (.int .i64 N)
  c1 : x.cell? ⟨z, 1, none⟩ = some (.int .i64 W)
  c2 : x.cell? ⟨z, 2, none⟩ = some (.int .i64 B)
  c3 : x.cell? ⟨z, 3, none⟩ = some (.int .i64 L)
  f : ∀ i, x.frozen? ⟨z, i, none⟩ = false
  z : z < x.heap.size
theorem Cf.below {z : Nat} {x y : World} {N W B L : Int} (h : Cf z x N W B L) {c : Nat} (hb : Below c x y) (hz : z < c) : Cf z y N W B L :=
  ⟨(hb.cell (p := ⟨z, 0, none⟩) hz).trans h.c0, (hb.cell (p := ⟨z, 1, none⟩) hz).trans h.c1, (hb.cell (p := ⟨z, 2, none⟩) hz).trans h.c2, (hb.cell (p := ⟨z, 3, none⟩) hz).trans h.c3, fun i => (hb.frozen (p := ⟨z, i, none⟩) hz).trans (h.f i), Nat.lt_of_lt_of_le h.z hb.size⟩
theorem Cf.off {z b : Nat} {x y : World} {N W B L : Int} (h : Cf z x N W B L) (ho : Off x y b) (hne : z ≠ b) : Cf z y N W B L :=
  ⟨ho.cell h.c0 hne, ho.cell h.c1 hne, ho.cell h.c2 hne, ho.cell h.c3 hne, fun i => by rw [World.frozen?_of_block (w := x) (ho.block z hne)]; exact h.f i, by rw [ho.size]; exact h.z⟩
theorem Cf.set {b : Nat} {x : World} {N W B L N' W' B' L' : Int} (h : Cf b x N W B L) : Cf b ((((x.setCell ⟨b, 0, none⟩ (.int .i64 N')).setCell ⟨b, 1, none⟩ (.int .i64 W')).setCell ⟨b, 2, none⟩ (.int .i64 B')).setCell ⟨b, 3, none⟩ (.int .i64 L')) N' W' B' L' := by
  obtain ⟨c0, c1, c2, c3, hf, hz⟩ := h
  refine ⟨?_, ?_, ?_, ?_, fun i => ?_, by simpa [World.setCell] using hz⟩
  · go_simp
  · go_simp
  · go_simp
  · go_simp
  · rw [frozen_set, frozen_set, frozen_set, frozen_set]; exact hf i
theorem cf_alloc (w : World) (N W B L : Int) (t : TypeId) : Cf w.heap.size (w.alloc (.cells #[.int .i64 N, .int .i64 W, .int .i64 B, .int .i64 L] t)) N W B L := by
  obtain ⟨c0, c1, c2, c3⟩ := cbox w N W B L t
  exact ⟨c0, c1, c2, c3, fun i => frozen_of_row _ _ i _ t (heap_alloc_new _ _), by simp⟩
/-- A frame in memory. -/
structure Sv (z : Nat) (x : World) (v0 v1 v2 v3 v4 v5 v6 : Value) : Prop where
  s : Seven z x v0 v1 v2 v3 v4 v5 v6
  f : ∀ i, x.frozen? ⟨z, i, none⟩ = false
theorem Sv.below {z : Nat} {x y : World} {v0 v1 v2 v3 v4 v5 v6 : Value} (h : Sv z x v0 v1 v2 v3 v4 v5 v6) {c : Nat} (hb : Below c x y) (hz : z < c) : Sv z y v0 v1 v2 v3 v4 v5 v6 := ⟨h.s.below hb hz, fun i => (hb.frozen (p := ⟨z, i, none⟩) hz).trans (h.f i)⟩
theorem Sv.off {z b : Nat} {x y : World} {v0 v1 v2 v3 v4 v5 v6 : Value} (h : Sv z x v0 v1 v2 v3 v4 v5 v6) (ho : Off x y b) (hne : z ≠ b) : Sv z y v0 v1 v2 v3 v4 v5 v6 :=
  ⟨⟨ho.cell h.s.c0 hne, ho.cell h.s.c1 hne, ho.cell h.s.c2 hne, ho.cell h.s.c3 hne, ho.cell h.s.c4 hne, ho.cell h.s.c5 hne, ho.cell h.s.c6 hne, by rw [ho.size]; exact h.s.z⟩, fun i => by rw [World.frozen?_of_block (w := x) (ho.block z hne)]; exact h.f i⟩
theorem Sv.set {b : Nat} {x : World} {u0 u1 u2 u3 u4 u5 u6 : Value} (h : Sv b x u0 u1 u2 u3 u4 u5 u6) (v0 v1 v2 v3 v4 v5 v6 : Value) : Sv b (((((((x.setCell ⟨b, 0, none⟩ v0).setCell ⟨b, 1, none⟩ v1).setCell ⟨b, 2, none⟩ v2).setCell ⟨b, 3, none⟩ v3).setCell ⟨b, 4, none⟩ v4).setCell ⟨b, 5, none⟩ v5).setCell ⟨b, 6, none⟩ v6) v0 v1 v2 v3 v4 v5 v6 := by
  obtain ⟨⟨c0, c1, c2, c3, c4, c5, c6, cz⟩, hf⟩ := h
  refine ⟨⟨?_, ?_, ?_, ?_, ?_, ?_, ?_, by simpa [World.setCell] using cz⟩, fun i => ?_⟩
  · go_simp
  · go_simp
  · go_simp
  · go_simp
  · go_simp
  · go_simp
  · go_simp
  · rw [frozen_set, frozen_set, frozen_set, frozen_set, frozen_set, frozen_set, frozen_set]; exact hf i
theorem sv_alloc (w : World) (v0 v1 v2 v3 v4 v5 v6 : Value) (t : TypeId) : Sv w.heap.size (w.alloc (.cells #[v0, v1, v2, v3, v4, v5, v6] t)) v0 v1 v2 v3 v4 v5 v6 :=
  ⟨seven_alloc w v0 v1 v2 v3 v4 v5 v6 t, fun i => frozen_of_row _ _ i _ t (heap_alloc_new _ _)⟩
theorem below_set4 {B : Nat} {a x : World} (h : Below B a x) {b : Nat} (hb : B ≤ b) (v0 v1 v2 v3 : Value) : Below B a ((((x.setCell ⟨b, 0, none⟩ v0).setCell ⟨b, 1, none⟩ v1).setCell ⟨b, 2, none⟩ v2).setCell ⟨b, 3, none⟩ v3) :=
  (((h.setCell hb _).setCell hb _).setCell hb _).setCell hb _
end Go.Proofs.YtabecbjfamphbaaDoor
