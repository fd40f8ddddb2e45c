/-
  The law's book: what it keeps, and what keeps it.
-/
import Derived.Test.YtmohlnkpnigciaaDoorLookI
namespace Go.Proofs.YtmohlnkpnigciaaDoor
open Go.RowKit Go.Stop Go.Extern

/-- The same memory but for some blocks, and new ones. -/
structure Alike (w w' : World) (E : Nat → Prop) : Prop where
  size : w.heap.size ≤ w'.heap.size
  block : ∀ k, k < w.heap.size → ¬ E k → w'.heap[k]? = w.heap[k]?
  same : w'.os = w.os ∧ w'.tape = w.tape ∧ w'.output = w.output
theorem Alike.refl (w : World) (E : Nat → Prop) : Alike w w E := ⟨Nat.le_refl _, fun _ _ _ => rfl, rfl, rfl, rfl⟩
theorem Alike.trans {w w' w'' : World} {E E' : Nat → Prop} (h : Alike w w' E) (h' : Alike w' w'' E') (hE : ∀ k, k < w.heap.size → E' k → E k) : Alike w w'' E :=
  ⟨Nat.le_trans h.size h'.size, fun k hk hn => (h'.block k (Nat.lt_of_lt_of_le hk h.size) (fun he => hn (hE k hk he))).trans (h.block k hk hn), h'.same.1.trans h.same.1, h'.same.2.1.trans h.same.2.1, h'.same.2.2.trans h.same.2.2⟩
theorem Alike.of_below {w w' : World} (h : Below w.heap.size w w') (E : Nat → Prop) : Alike w w' E := ⟨h.size, fun k hk _ => h.block k hk, h.os, h.tape, h.output⟩
theorem Alike.of_grown {w w' : World} {row : Option Nat} (h : w.grownBy w' row) : Alike w w' (fun k => row = some k) := by
  obtain ⟨h1, h2, h3, hs, hb⟩ := h
  exact ⟨hs, fun k hk hn => hb k hk (fun e => hn e.symm), h1, h2, h3⟩
theorem Alike.alloc (w : World) (o : Obj) (E : Nat → Prop) : Alike w (w.alloc o) E := ⟨by simp, fun k hk _ => Below.heap_alloc _ _ _ hk, rfl, rfl, rfl⟩
theorem Alike.setCell (w : World) (a : Addr) (v : Value) : Alike w (w.setCell a v) (fun k => k = a.block) := ⟨by simp [World.setCell], fun k _ hn => heap_setCell_other w a k v hn, rfl, rfl, rfl⟩
theorem Alike.cell {w w' : World} {E : Nat → Prop} (h : Alike w w' E) {b i : Nat} {v : Value} (hc : w.cell? ⟨b, i, none⟩ = some v) (hE : ¬ E b) : w'.cell? ⟨b, i, none⟩ = some v := by
  rw [World.cell?_of_block (w := w) (h.block b (lt_of_cell hc) hE)]; exact hc
/-- A list that is its mark throughout. -/
def Mk (w : World) (x : Value) (m : Int) : Prop :=
  ∃ a n c, x = .slice a n c ∧ n ≤ 1000 ∧ (n = 0 ∨ ∃ g cur, a = some ⟨g, 0, none⟩ ∧ w.heap[g]? = some (.cells cur 3 (0, 0)) ∧ ∀ i, i < n → cur[i]? = some (.int .i64 m))
theorem Mk.alike {w w' : World} {E : Nat → Prop} {x : Value} {m : Int} (h : Mk w x m) (ha : Alike w w' E) (hE : ∀ k cur, w.heap[k]? = some (.cells cur 3 (0, 0)) → x.ownBlock = some k → ¬ E k) : Mk w' x m := by
  obtain ⟨a, n, c, rfl, hn, h0 | ⟨g, cur, rfl, hg, hc⟩⟩ := h
  · exact ⟨a, n, c, rfl, hn, Or.inl h0⟩
  · exact ⟨_, n, c, rfl, hn, Or.inr ⟨g, cur, rfl, (ha.block g (lt_of_some hg) (hE g cur hg rfl)).trans hg, hc⟩⟩
theorem Mk.ints {w : World} {a : Option Addr} {n c : Nat} {m : Int} (h : Mk w (.slice a n c) m) : n ≤ 1000 ∧ Ints w a n (List.replicate n m) := by
  obtain ⟨a', n', c', he, hn, h0⟩ := h
  cases he
  refine ⟨hn, by simp, fun i hi => ?_⟩
  rcases h0 with h0 | ⟨g, cur, rfl, hg, hc⟩
  · omega
  · refine ⟨g, 0, rfl, lt_of_some hg, ?_⟩
    rw [Nat.zero_add, cell_of_row w g i cur 3 (0, 0) hg, hc i hi]
    simp [List.getD_eq_getElem?_getD, hi]
/-- The book's lists, each its mark. -/
def OwnS (w : World) (base : Nat) (v : Value) (xs : List Value) : Prop := w.ownsRow base 24 1 v xs.length xs
theorem kept_of {w : World} {base : Nat} {ad : Option Addr} {len cap : Nat} {xs : List Value} (h : OwnS w base (.slice ad len cap) xs) (hm : ∀ i x, xs[i]? = some x → Mk w x (-1000 - ((i / 4 * 4 : Nat) : Int))) (hlen : xs.length = len) : Kept w ad len := by
  intro i hi
  subst hlen
  rcases h.2 with ⟨_, h0⟩ | ⟨g, cap', cur, he, _⟩
  · omega
  · cases he
    have hx : xs[i]? = some xs[i] := List.getElem?_eq_getElem hi
    have hmk := hm i _ hx
    have hc := World.ownsRow.cellAt h i (by omega)
    obtain ⟨a, n, c, hxe, _⟩ := id hmk
    rw [hx, hxe] at hc
    rw [hxe] at hmk
    exact ⟨g, a, n, c, rfl, hc, hmk.ints.1, hmk.ints.2⟩
end Go.Proofs.YtmohlnkpnigciaaDoor
