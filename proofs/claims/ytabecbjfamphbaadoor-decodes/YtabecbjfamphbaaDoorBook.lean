/-
  The law's book: what it keeps, and what keeps it.
-/
import Derived.Test.YtabecbjfamphbaaDoorLookI
import Derived.Test.YtabecbjfamphbaaDoorRow
namespace Go.Proofs.YtabecbjfamphbaaDoor
open Go.RowKit Go.Stop Go.Extern

/-- A list that is its mark throughout. -/
def Mk (w : World) (x : Value) (m : Int) : Prop :=
  ∃ a n c, x = .slice a n c ∧ n ≤ 1000 ∧ (n = 0 ∨ ∃ g cur, a = some ⟨g, 0, none⟩ ∧ w.heap[g]? = some (.cells cur 3 (0, 0)) ∧ ∀ i, i < n → cur[i]? = some (.int .i64 m))
theorem Mk.alike {w w' : World} {E : Nat → Prop} {x : Value} {m : Int} (h : Mk w x m) (ha : Alike w w' E) (hE : ∀ k cur, w.heap[k]? = some (.cells cur 3 (0, 0)) → x.ownBlock = some k → ¬ E k) : Mk w' x m := by
  obtain ⟨a, n, c, rfl, hn, h0 | ⟨g, cur, rfl, hg, hc⟩⟩ := h
  · exact ⟨a, n, c, rfl, hn, Or.inl h0⟩
  · exact ⟨_, n, c, rfl, hn, Or.inr ⟨g, cur, rfl, (ha.block g (lt_of_some hg) (hE g cur hg rfl)).trans hg, hc⟩⟩
theorem Mk.ints {w : World} {a : Option Addr} {n c : Nat} {m : Int} (h : Mk w (.slice a n c) m) : n ≤ 1000 ∧ Ints w a n (List.replicate n m) := by
  obtain ⟨a', n', c', he, hn, h0⟩ := h
  cases he
  refine ⟨hn, by simp, fun i hi => ?_⟩
  rcases h0 with h0 | ⟨g, cur, rfl, hg, hc⟩
  · omega
  · refine ⟨g, 0, rfl, lt_of_some hg, ?_⟩
    rw [Nat.zero_add, cell_of_row w g i cur 3 (0, 0) hg, hc i hi]
    simp [List.getD_eq_getElem?_getD, hi]
/-- The book's lists, each its mark. -/
def OwnS (w : World) (base : Nat) (v : Value) (xs : List Value) : Prop := w.ownsRow base 24 1 v xs.length xs
theorem kept_of {w : World} {base : Nat} {ad : Option Addr} {len cap : Nat} {xs : List Value} (h : OwnS w base (.slice ad len cap) xs) (hm : ∀ i x, xs[i]? = some x → Mk w x (-1000 - ((i / 4 * 4 : Nat) : Int))) (hlen : xs.length = len) : Kept w ad len := by
  intro i hi
  subst hlen
  rcases h.2 with ⟨_, h0⟩ | ⟨g, cap', cur, he, _⟩
  · omega
  · cases he
    have hx : xs[i]? = some xs[i] := List.getElem?_eq_getElem hi
    have hmk := hm i _ hx
    have hc := World.ownsRow.cellAt h i (by omega)
    obtain ⟨a, n, c, hxe, _⟩ := id hmk
    rw [hx, hxe] at hc
    rw [hxe] at hmk
    exact ⟨g, a, n, c, rfl, hc, hmk.ints.1, hmk.ints.2⟩
end Go.Proofs.YtabecbjfamphbaaDoor
