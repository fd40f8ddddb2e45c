/-
  A slice of numbers of the call's own.
-/
import Derived.Test.YtabecbjfamphbaaDoorRoomP
namespace Go.Proofs.YtabecbjfamphbaaDoor
open Go.RowKit Go.Stop Go.Extern

/-- A slice of numbers of the call's own. -/
def OwnI (w : World) (base : Nat) (v : Value) (l : List Int) : Prop := w.ownsRow base 3 1 v l.length (l.map (Value.int .i64))
theorem OwnI.alloc {w : World} {base : Nat} {v : Value} {l : List Int} (h : OwnI w base v l) (o : Obj) : OwnI (w.alloc o) base v l := World.ownsRow.alloc h o
theorem OwnI.block {w : World} {base : Nat} {v : Value} {l : List Int} (h : OwnI w base v l) : ∀ k, v.ownBlock = some k → base ≤ k := by
  intro k hk
  rcases h.2 with ⟨rfl, _⟩ | ⟨g, cap, cur, rfl, hg, _⟩
  · cases hk
  · cases hk; exact hg
theorem OwnI.snoc {w w' : World} {base : Nat} {v v' : Value} {l : List Int} (y : Int) (o : Obj) (_h : OwnI w base v l) (h' : w'.ownsRow base 3 1 v' (l.length + 1) (l.map (Value.int .i64) ++ [Value.int .i64 y])) (hg : (w.alloc o).grownBy w' v.ownBlock) (hb : base ≤ w.heap.size) : OwnI w' base v' (l ++ [y]) ∧ Below base w w' := by
  refine ⟨?_, ((Below.refl _ _).alloc hb o).grown hg (by simp; omega) _h.block⟩
  unfold OwnI
  rw [List.map_append, List.length_append]
  exact h'
theorem OwnI.other {w : World} {base : Nat} {v : Value} {l : List Int} (h : OwnI w base v l) {a : Addr} (ha : a.block < base) (u : Value) : OwnI (w.setCell a u) base v l := ownsRow_setCell_below h ha u
theorem OwnI.mono {w : World} {base base' : Nat} {v : Value} {l : List Int} (h : OwnI w base v l) (hb : base' ≤ base) : OwnI w base' v l := by
  refine ⟨h.1, ?_⟩
  rcases h.2 with h | ⟨g, cap, cur, h1, h2, h3⟩
  · exact Or.inl h
  · exact Or.inr ⟨g, cap, cur, h1, Nat.le_trans hb h2, h3⟩
theorem OwnI.shape {w : World} {base : Nat} {v : Value} {l : List Int} (h : OwnI w base v l) : ∃ a c, v = .slice a l.length c := by
  rcases h.2 with ⟨rfl, h0⟩ | ⟨g, cap, cur, rfl, _⟩
  · rw [h0]; exact ⟨none, 0, rfl⟩
  · exact ⟨_, _, rfl⟩
theorem OwnI.set7 {w : World} {base b : Nat} {v : Value} {l : List Int} (h : OwnI w base v l) (hb : b < base) (v0 v1 v2 v3 v4 v5 v6 : Value) :
    OwnI (((((((w.setCell ⟨b, 0, none⟩ v0).setCell ⟨b, 1, none⟩ v1).setCell ⟨b, 2, none⟩ v2).setCell ⟨b, 3, none⟩ v3).setCell ⟨b, 4, none⟩ v4).setCell ⟨b, 5, none⟩ v5).setCell ⟨b, 6, none⟩ v6) base v l :=
  ((((((h.other hb _).other hb _).other hb _).other hb _).other hb _).other hb _).other hb _
theorem OwnI.ints {w : World} {base : Nat} {v : Value} {l : List Int} {n : Nat} (h : OwnI w base v l) (hn : l.length = n) : ∃ ad cap, v = .slice ad n cap ∧ Ints w ad n l := by
  subst hn
  rcases h.2 with ⟨rfl, h0⟩ | ⟨g, cap, cur, rfl, hg, hh, hr⟩
  · rw [List.length_eq_zero_iff.1 h0]
    exact ⟨none, 0, rfl, ⟨rfl, fun _ hi => absurd hi (Nat.not_lt_zero _)⟩⟩
  · refine ⟨_, cap, rfl, rfl, fun i hi => ⟨g, 0, rfl, lt_of_some hh, ?_⟩⟩
    have hc := World.ownsRow.cellAt h i (by simpa using hi)
    rw [Nat.zero_add, hc, List.getElem?_map, List.getElem?_eq_getElem hi, List.getD_eq_getElem?_getD, List.getElem?_eq_getElem hi]
    rfl
end Go.Proofs.YtabecbjfamphbaaDoor
