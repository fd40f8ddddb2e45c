/-
  The same memory but for some blocks.
-/
import Derived.Test.YtabecbjfamphbaaDoorRules
namespace Go.Proofs.YtabecbjfamphbaaDoor
open Go.RowKit Go.Stop Go.Extern

/-- The same memory but for some blocks, and new ones. -/
structure Alike (w w' : World) (E : Nat → Prop) : Prop where
  size : w.heap.size ≤ w'.heap.size
  block : ∀ k, k < w.heap.size → ¬ E k → w'.heap[k]? = w.heap[k]?
  same : w'.os = w.os ∧ w'.tape = w.tape ∧ w'.output = w.output
theorem Alike.refl (w : World) (E : Nat → Prop) : Alike w w E := ⟨Nat.le_refl _, fun _ _ _ => rfl, rfl, rfl, rfl⟩
theorem Alike.trans {w w' w'' : World} {E E' : Nat → Prop} (h : Alike w w' E) (h' : Alike w' w'' E') (hE : ∀ k, k < w.heap.size → E' k → E k) : Alike w w'' E :=
  ⟨Nat.le_trans h.size h'.size, fun k hk hn => (h'.block k (Nat.lt_of_lt_of_le hk h.size) (fun he => hn (hE k hk he))).trans (h.block k hk hn), h'.same.1.trans h.same.1, h'.same.2.1.trans h.same.2.1, h'.same.2.2.trans h.same.2.2⟩
theorem Alike.of_below {w w' : World} (h : Below w.heap.size w w') (E : Nat → Prop) : Alike w w' E := ⟨h.size, fun k hk _ => h.block k hk, h.os, h.tape, h.output⟩
theorem Alike.of_grown {w w' : World} {row : Option Nat} (h : w.grownBy w' row) : Alike w w' (fun k => row = some k) := by
  obtain ⟨h1, h2, h3, hs, hb⟩ := h
  exact ⟨hs, fun k hk hn => hb k hk (fun e => hn e.symm), h1, h2, h3⟩
theorem Alike.alloc (w : World) (o : Obj) (E : Nat → Prop) : Alike w (w.alloc o) E := ⟨by simp, fun k hk _ => Below.heap_alloc _ _ _ hk, rfl, rfl, rfl⟩
theorem Alike.setCell (w : World) (a : Addr) (v : Value) : Alike w (w.setCell a v) (fun k => k = a.block) := ⟨by simp [World.setCell], fun k _ hn => heap_setCell_other w a k v hn, rfl, rfl, rfl⟩
theorem Alike.cell {w w' : World} {E : Nat → Prop} (h : Alike w w' E) {b i : Nat} {v : Value} (hc : w.cell? ⟨b, i, none⟩ = some v) (hE : ¬ E b) : w'.cell? ⟨b, i, none⟩ = some v := by
  rw [World.cell?_of_block (w := w) (h.block b (lt_of_cell hc) hE)]; exact hc
theorem Alike.frozen {w w' : World} {E : Nat → Prop} (h : Alike w w' E) {b i : Nat} (hb : b < w.heap.size) (hf : w.frozen? ⟨b, i, none⟩ = false) (hE : ¬ E b) : w'.frozen? ⟨b, i, none⟩ = false := by
  rw [World.frozen?_of_block (w := w) (h.block b hb hE)]; exact hf
end Go.Proofs.YtabecbjfamphbaaDoor
