/-
  What the listed variables give the walks: the eight sentinels.
-/
import Derived.Test.YtabecbjfamphbaaDoorChk
import Derived.ProofKit
import Derived.LaidMore
import Derived.LaidSub
import Derived.Stop.LaidTwo
namespace Go.Proofs.YtabecbjfamphbaaDoor
open Go.RowKit Go.Stop Go.Extern
set_option maxRecDepth 100000

theorem Tryd.cells1 : Tryd.prog.cellsOf 157 = 1 := by kernel_rfl
theorem Tryd.cellsS : Tryd.prog.cellsOf 9 = 1 := by kernel_rfl
theorem Tryd.star : "*" ++ "errors.errorString" = "*errors.errorString" := by decide
theorem Tryd.rowE (u : TypeId) (h : Tryd.prog.typeName? 3 u = some "*errors.errorString") : u = 137 :=
  typeName_ptr_named (nm := "errors.errorString") (by rw [Tryd.star]; kernel_rfl) (by kernel_rfl) (by decide) u (by rw [Tryd.star]; exact h)
theorem var_cell {W : World} {nm : String} {g : Nat} {v : Value} (hg : Tryd.prog.globalNamed nm = some g) (h : W.var? Tryd.prog nm = some #[v]) : W.cell? ⟨g, 0, none⟩ = some v := by
  have := World.var?_cell hg h 0
  simpa using this
def nOf (k : Nat) : String := match (Rows.encodesRow.laid)[k - 1]? with
  | some (n, _) => n
  | none => ""
def tOf (k : Nat) : List UInt8 := match (Rows.encodesRow.laid)[k - 1]? with
  | some (_, .iface _ (.ptr (.agg [.lit (.string t)]))) => t
  | _ => []
theorem pair_of {W : World} {l : List (String × DataW Unit)} (h : laidMet Tryd.prog l W) {n0 n1 : String} {x0 x1 : List UInt8} {g0 g1 : Nat}
    (hf : (l.filter fun x => x.1 == n0 || x.1 == n1) = [(n0, .iface "*errors.errorString" (.ptr (.agg [.lit (.string x0)]))), (n1, .iface "*errors.errorString" (.ptr (.agg [.lit (.string x1)])))])
    (hg0 : Tryd.prog.globalNamed n0 = some g0) (ht0 : (Tryd.prog.globals[g0]?).map (·.type) = some 63) (hg1 : Tryd.prog.globalNamed n1 = some g1) (ht1 : (Tryd.prog.globals[g1]?).map (·.type) = some 63) :
    ∃ a0 a1, W.cell? ⟨g0, 0, none⟩ = some (.iface 137 (.pointer (some a0))) ∧ W.cell? ⟨g1, 0, none⟩ = some (.iface 137 (.pointer (some a1))) ∧ a0 ≠ a1 ∧
      (∃ ca ta, W.heap[a0.block]? = some (.cells ca ta (0, 0))) ∧ (∃ ca ta, W.heap[a1.block]? = some (.cells ca ta (0, 0))) := by
  have h' := h.filter (fun x => x.1 == n0 || x.1 == n1)
  rw [hf] at h'
  obtain ⟨a0, a1, s0, s1, c0, c1, t0, t1, hv0, hv1, hc0, hs0, hz0, hc1, hs1, hz1, hne, hb0, hb1⟩ := laid_sentinels2 h' hg0 ht0 hg1 ht1 Tryd.underlying63 Tryd.rowE Tryd.underlying137 Tryd.underlying157 rfl rfl Tryd.underlying9 Tryd.cells1 Tryd.cellsS
  exact ⟨a0, a1, var_cell hg0 hv0, var_cell hg1 hv1, hne, ⟨c0, t0, hb0⟩, ⟨c1, t1, hb1⟩⟩
theorem pair_at {W : World} (h : laidMet Tryd.prog Rows.encodesRow.laid W) (i j : Nat) (h1 : 1 ≤ i) (hij : i < j) (h8 : j ≤ 8) :
    ∃ a0 a1, W.cell? ⟨gOf i, 0, none⟩ = some (.iface 137 (.pointer (some a0))) ∧ W.cell? ⟨gOf j, 0, none⟩ = some (.iface 137 (.pointer (some a1))) ∧ a0 ≠ a1 ∧
      (∃ ca ta, W.heap[a0.block]? = some (.cells ca ta (0, 0))) ∧ (∃ ca ta, W.heap[a1.block]? = some (.cells ca ta (0, 0))) := by
  have hg : ∀ k, 1 ≤ k → k ≤ 8 → Tryd.prog.globalNamed (nOf k) = some (gOf k) ∧ (Tryd.prog.globals[gOf k]?).map (·.type) = some 63 := by
    intro k k1 k8
    rcases (by omega : k = 1 ∨ k = 2 ∨ k = 3 ∨ k = 4 ∨ k = 5 ∨ k = 6 ∨ k = 7 ∨ k = 8) with rfl | rfl | rfl | rfl | rfl | rfl | rfl | rfl <;> exact ⟨by kernel_rfl, by kernel_rfl⟩
  refine pair_of h (n0 := nOf i) (n1 := nOf j) (x0 := tOf i) (x1 := tOf j) ?_ (hg i h1 (by omega)).1 (hg i h1 (by omega)).2 (hg j (by omega) h8).1 (hg j (by omega) h8).2
  rcases (by omega : i = 1 ∨ i = 2 ∨ i = 3 ∨ i = 4 ∨ i = 5 ∨ i = 6 ∨ i = 7) with rfl | rfl | rfl | rfl | rfl | rfl | rfl <;>
    rcases (by omega : j = 2 ∨ j = 3 ∨ j = 4 ∨ j = 5 ∨ j = 6 ∨ j = 7 ∨ j = 8) with rfl | rfl | rfl | rfl | rfl | rfl | rfl <;> first | omega | kernel_rfl
theorem cell_ptr {W : World} {g : Nat} {a b : Addr} (h : W.cell? ⟨g, 0, none⟩ = some (.iface 137 (.pointer (some a)))) (h' : W.cell? ⟨g, 0, none⟩ = some (.iface 137 (.pointer (some b)))) : a = b := by
  rw [h] at h'
  cases h'
  rfl
theorem sents_of {W : World} (h : laidMet Tryd.prog Rows.encodesRow.laid W) : ∃ A, Sents W A := by
  have hs : ∀ k, 1 ≤ k → k ≤ 8 → ∃ a, W.cell? ⟨gOf k, 0, none⟩ = some (.iface 137 (.pointer (some a))) ∧ ∃ ca ta, W.heap[a.block]? = some (.cells ca ta (0, 0)) := by
    intro k k1 k8
    by_cases hk : k = 8
    · subst hk
      obtain ⟨a0, a1, _, h2, _, _, h5⟩ := pair_at h 1 8 (by omega) (by omega) (by omega)
      exact ⟨a1, h2, h5⟩
    · obtain ⟨a0, a1, h1, _, _, h4, _⟩ := pair_at h k 8 k1 (by omega) (by omega)
      exact ⟨a0, h1, h4⟩
  refine ⟨fun k => if hk : 1 ≤ k ∧ k ≤ 8 then Classical.choose (hs k hk.1 hk.2) else ⟨0, 0, none⟩, ⟨?_, ?_, ?_⟩⟩
  · intro k k1 k8
    simp only [dif_pos (And.intro k1 k8)]
    exact (Classical.choose_spec (hs k k1 k8)).1
  · intro i j i1 i8 j1 j8 hne
    simp only [dif_pos (And.intro i1 i8), dif_pos (And.intro j1 j8)]
    have ci := (Classical.choose_spec (hs i i1 i8)).1
    have cj := (Classical.choose_spec (hs j j1 j8)).1
    rcases Nat.lt_or_gt_of_ne hne with hlt | hlt
    · obtain ⟨a0, a1, h1, h2, h3, _, _⟩ := pair_at h i j i1 hlt j8
      rw [cell_ptr ci h1, cell_ptr cj h2]
      exact h3
    · obtain ⟨a0, a1, h1, h2, h3, _, _⟩ := pair_at h j i j1 hlt i8
      rw [cell_ptr ci h2, cell_ptr cj h1]
      exact h3.symm
  · intro k k1 k8
    simp only [dif_pos (And.intro k1 k8)]
    exact (Classical.choose_spec (hs k k1 k8)).2
theorem sent_of_laid {W : World} (h : laidMetH Tryd.prog Rows.encodesRow.laid W) : ∃ a0 a1, Sent W a0 a1 := by
  rw [MakeChecks.laidMetH_plain _ _ _ (by kernel_rfl)] at h
  obtain ⟨A, hA⟩ := sents_of h
  exact ⟨A 1, A 5, ⟨A, hA, rfl, rfl⟩⟩
end Go.Proofs.YtabecbjfamphbaaDoor
