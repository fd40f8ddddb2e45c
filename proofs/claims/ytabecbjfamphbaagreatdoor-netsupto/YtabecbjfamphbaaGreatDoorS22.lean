/-
  Texts that the proof needs, joined: Kk, Kl, Oa, Ob, Lz, Oc.
-/
import Derived.Test.YtabecbjfamphbaaGreatDoorS21
import Derived.BigRegion
import Derived.Test.YtabecbjfamphbaaGreatDoorS10
import Derived.Laws.IdiomStrings
import Derived.ProofKit
import Derived.LaidMore
import Derived.OpenShut
import Derived.Deep.Slices
import Derived.SizedLaws
import Derived.Test.YtabecbjfamphbaaGreatDoorS03
import Derived.Test.YtabecbjfamphbaaGreatDoorRows
import Derived.LaidSub
import Derived.Stop.LaidTwo
import Derived.Stop.Joined
import Derived.Lib.SmallJoins
/- What a script makes of a circle, as plain data: saying; the beginning. -/
namespace Go.Proofs.YtabecbjfamphbaaGreatDoor
open Go.RowKit Go.Stop Go.Extern

section
variable {g : Gr} {x : MNet} {sd : List Sd} {sn : List Sn} {bag : List (Nat × Msg)} {said : List Fm} {m : Nat}
theorem sayL_enc (g : Gr) (p : Nat) (f : Fm) (ho : f.org = p) : NS.sayL g p f = (passM g p f p).map (encP g) := by
  rw [← passL_enc, ho]
  rfl
end
end Go.Proofs.YtabecbjfamphbaaGreatDoor

/- hearsaykeep: packet. -/
namespace Go.Proofs.YtabecbjfamphbaaGreatDoor
open Go.RowKit Go.Stop Go.Extern

/-- A step as a value. -/
structure Stp where
  K : Int
  a : Int
  b : Int
  v : Int
  s : ByteArray
  f0 : Int
  f1 : Int
  f2 : Int
  f3 : Int
  f4 : Int
  fa : Option Addr
  fl : Nat
  fc : Nat
  fb : ByteArray
end Go.Proofs.YtabecbjfamphbaaGreatDoor

/- A script that was handed in, opened. -/
namespace Go.Proofs.YtabecbjfamphbaaGreatDoor
open Go.RowKit Go.Stop Go.Extern Go.ChangeShapes Go.WideShapes Go.ChangeAt Go.WideMaps Go.WideElems Go.Deep
set_option maxRecDepth 100000

theorem i64_wf {n : Int} (h : (Lit.int .i64 n).wf = true) : I64 n := by
  simp only [Lit.wf, Bool.and_eq_true, decide_eq_true_eq] at h
  exact h
theorem Tryz.frameCells : Tryz.prog.cellsOf 45 = 7 := by kernel_rfl
theorem Tryz.intCells : Tryz.prog.cellsOf 3 = 1 := by kernel_rfl
theorem Tryz.strCells : Tryz.prog.cellsOf 9 = 1 := by kernel_rfl
theorem Tryz.intsCells : Tryz.prog.cellsOf 34 = 1 := by kernel_rfl
section
variable {H : Type} {enc : TypeId × Value → H} {w : World} {base : Nat} {spare : Nat → Bool} {held : Bool}
theorem some_at {α : Type} {l : List α} {i n : Nat} (h : l.length = n) (hi : i < n) : ∃ x, l[i]? = some x := ⟨l[i], List.getElem?_eq_getElem (by omega)⟩
end
end Go.Proofs.YtabecbjfamphbaaGreatDoor

/- A script that was handed in, opened: all its steps. -/
namespace Go.Proofs.YtabecbjfamphbaaGreatDoor
open Go.RowKit Go.Stop Go.Extern Go.ChangeShapes Go.WideShapes Go.ChangeAt Go.WideMaps Go.WideElems Go.Deep
set_option maxRecDepth 100000

instance : Inhabited Stp := ⟨⟨0, 0, 0, 0, ⟨#[]⟩, 0, 0, 0, 0, 0, none, 0, 0, ⟨#[]⟩⟩⟩
end Go.Proofs.YtabecbjfamphbaaGreatDoor

/- What the listed variables give the walks: the eight sentinels. -/
namespace Go.Proofs.YtabecbjfamphbaaGreatDoor
open Go.RowKit Go.Stop Go.Extern
set_option maxRecDepth 100000

theorem Tryz.cells1 : Tryz.prog.cellsOf 317 = 1 := by kernel_rfl
theorem Tryz.cellsS : Tryz.prog.cellsOf 9 = 1 := by kernel_rfl
theorem Tryz.star : "*" ++ "errors.errorString" = "*errors.errorString" := by decide
theorem Tryz.rowE (u : TypeId) (h : Tryz.prog.typeName? 3 u = some "*errors.errorString") : u = 298 :=
  typeName_ptr_named (nm := "errors.errorString") (by rw [Tryz.star]; kernel_rfl) (by kernel_rfl) (by decide) u (by rw [Tryz.star]; exact h)
theorem var_cell {W : World} {nm : String} {g : Nat} {v : Value} (hg : Tryz.prog.globalNamed nm = some g) (h : W.var? Tryz.prog nm = some #[v]) : W.cell? ⟨g, 0, none⟩ = some v := by
  have := World.var?_cell hg h 0
  simpa using this
def nOf (k : Nat) : String := match (Rows.causalRow.laid)[k - 1]? with
  | some (n, _) => n
  | none => ""
def tOf (k : Nat) : List UInt8 := match (Rows.causalRow.laid)[k - 1]? with
  | some (_, .iface _ (.ptr (.agg [.lit (.string t)]))) => t
  | _ => []
theorem pair_of {W : World} {l : List (String × DataW Unit)} (h : laidMet Tryz.prog l W) {n0 n1 : String} {x0 x1 : List UInt8} {g0 g1 : Nat}
    (hf : (l.filter fun x => x.1 == n0 || x.1 == n1) = [(n0, .iface "*errors.errorString" (.ptr (.agg [.lit (.string x0)]))), (n1, .iface "*errors.errorString" (.ptr (.agg [.lit (.string x1)])))])
    (hg0 : Tryz.prog.globalNamed n0 = some g0) (ht0 : (Tryz.prog.globals[g0]?).map (·.type) = some 98) (hg1 : Tryz.prog.globalNamed n1 = some g1) (ht1 : (Tryz.prog.globals[g1]?).map (·.type) = some 98) :
    ∃ a0 a1, W.cell? ⟨g0, 0, none⟩ = some (.iface 298 (.pointer (some a0))) ∧ W.cell? ⟨g1, 0, none⟩ = some (.iface 298 (.pointer (some a1))) ∧ a0 ≠ a1 ∧
      (∃ ca ta, W.heap[a0.block]? = some (.cells ca ta (0, 0))) ∧ (∃ ca ta, W.heap[a1.block]? = some (.cells ca ta (0, 0))) := by
  have h' := h.filter (fun x => x.1 == n0 || x.1 == n1)
  rw [hf] at h'
  obtain ⟨a0, a1, s0, s1, c0, c1, t0, t1, hv0, hv1, hc0, hs0, hz0, hc1, hs1, hz1, hne, hb0, hb1⟩ := laid_sentinels2 h' hg0 ht0 hg1 ht1 Tryz.underlying98 Tryz.rowE Tryz.underlying298 Tryz.underlying317 rfl rfl Tryz.underlying9 Tryz.cells1 Tryz.cellsS
  exact ⟨a0, a1, var_cell hg0 hv0, var_cell hg1 hv1, hne, ⟨c0, t0, hb0⟩, ⟨c1, t1, hb1⟩⟩
theorem pair_at {W : World} (h : laidMet Tryz.prog Rows.causalRow.laid W) (i j : Nat) (h1 : 1 ≤ i) (hij : i < j) (h8 : j ≤ 8) :
    ∃ a0 a1, W.cell? ⟨gOf i, 0, none⟩ = some (.iface 298 (.pointer (some a0))) ∧ W.cell? ⟨gOf j, 0, none⟩ = some (.iface 298 (.pointer (some a1))) ∧ a0 ≠ a1 ∧
      (∃ ca ta, W.heap[a0.block]? = some (.cells ca ta (0, 0))) ∧ (∃ ca ta, W.heap[a1.block]? = some (.cells ca ta (0, 0))) := by
  have hg : ∀ k, 1 ≤ k → k ≤ 8 → Tryz.prog.globalNamed (nOf k) = some (gOf k) ∧ (Tryz.prog.globals[gOf k]?).map (·.type) = some 98 := by
    intro k k1 k8
    rcases (by omega : k = 1 ∨ k = 2 ∨ k = 3 ∨ k = 4 ∨ k = 5 ∨ k = 6 ∨ k = 7 ∨ k = 8) with rfl | rfl | rfl | rfl | rfl | rfl | rfl | rfl <;> exact ⟨by kernel_rfl, by kernel_rfl⟩
  refine pair_of h (n0 := nOf i) (n1 := nOf j) (x0 := tOf i) (x1 := tOf j) ?_ (hg i h1 (by omega)).1 (hg i h1 (by omega)).2 (hg j (by omega) h8).1 (hg j (by omega) h8).2
  rcases (by omega : i = 1 ∨ i = 2 ∨ i = 3 ∨ i = 4 ∨ i = 5 ∨ i = 6 ∨ i = 7) with rfl | rfl | rfl | rfl | rfl | rfl | rfl <;>
    rcases (by omega : j = 2 ∨ j = 3 ∨ j = 4 ∨ j = 5 ∨ j = 6 ∨ j = 7 ∨ j = 8) with rfl | rfl | rfl | rfl | rfl | rfl | rfl <;> first | omega | kernel_rfl
theorem cell_ptr {W : World} {g : Nat} {a b : Addr} (h : W.cell? ⟨g, 0, none⟩ = some (.iface 298 (.pointer (some a)))) (h' : W.cell? ⟨g, 0, none⟩ = some (.iface 298 (.pointer (some b)))) : a = b := by
  rw [h] at h'
  cases h'
  rfl
theorem sents_of {W : World} (h : laidMet Tryz.prog Rows.causalRow.laid W) : ∃ A, Sents W A := by
  have hs : ∀ k, 1 ≤ k → k ≤ 8 → ∃ a, W.cell? ⟨gOf k, 0, none⟩ = some (.iface 298 (.pointer (some a))) ∧ ∃ ca ta, W.heap[a.block]? = some (.cells ca ta (0, 0)) := by
    intro k k1 k8
    by_cases hk : k = 8
    · subst hk
      obtain ⟨a0, a1, _, h2, _, _, h5⟩ := pair_at h 1 8 (by omega) (by omega) (by omega)
      exact ⟨a1, h2, h5⟩
    · obtain ⟨a0, a1, h1, _, _, h4, _⟩ := pair_at h k 8 k1 (by omega) (by omega)
      exact ⟨a0, h1, h4⟩
  refine ⟨fun k => if hk : 1 ≤ k ∧ k ≤ 8 then Classical.choose (hs k hk.1 hk.2) else ⟨0, 0, none⟩, ⟨?_, ?_, ?_⟩⟩
  · intro k k1 k8
    simp only [dif_pos (And.intro k1 k8)]
    exact (Classical.choose_spec (hs k k1 k8)).1
  · intro i j i1 i8 j1 j8 hne
    simp only [dif_pos (And.intro i1 i8), dif_pos (And.intro j1 j8)]
    have ci := (Classical.choose_spec (hs i i1 i8)).1
    have cj := (Classical.choose_spec (hs j j1 j8)).1
    rcases Nat.lt_or_gt_of_ne hne with hlt | hlt
    · obtain ⟨a0, a1, h1, h2, h3, _, _⟩ := pair_at h i j i1 hlt j8
      rw [cell_ptr ci h1, cell_ptr cj h2]
      exact h3
    · obtain ⟨a0, a1, h1, h2, h3, _, _⟩ := pair_at h j i j1 hlt i8
      rw [cell_ptr ci h2, cell_ptr cj h1]
      exact h3.symm
  · intro k k1 k8
    simp only [dif_pos (And.intro k1 k8)]
    exact (Classical.choose_spec (hs k k1 k8)).2
end Go.Proofs.YtabecbjfamphbaaGreatDoor

/- What was handed in, opened: a group, a script and how long it may be. -/
namespace Go.Proofs.YtabecbjfamphbaaGreatDoor
open Go.ChangeShapes Go.WideShapes Go.ChangeAt Go.WideMaps Go.WideElems Go.RowKit Go.Joins Go.Deep
set_option maxRecDepth 100000

theorem Tryz.own : ownKnob Tryz.prog.godebug = none := by kernel_rfl
theorem Tryz.laidOut : laidOutB Tryz.prog = true := by kernel_rfl
theorem Tryz.cellsC : Tryz.prog.cellsOf 26 = 4 := by kernel_rfl
theorem bulk_one {H : Type} (d : DataW H) : 1 ≤ Rows.uptoBulk d := by
  cases d with
  | lit l => cases l <;> simp [Rows.uptoBulk]
  | nil => simp [Rows.uptoBulk]
  | ptr d => simp [Rows.uptoBulk]
  | slice elems spare => simp [Rows.uptoBulk]
  | agg parts => simp [Rows.uptoBulk]
  | iface t d => simp [Rows.uptoBulk]
  | map entries => simp [Rows.uptoBulk]
  | held h => simp [Rows.uptoBulk]
theorem bulk_part {H : Type} {d : DataW H} {l : List (DataW H)} (h : d ∈ l) : Rows.uptoBulk d ≤ Rows.uptoBulkAll l := by
  induction l with
  | nil => cases h
  | cons x r ih =>
    simp only [Rows.uptoBulkAll]
    cases List.mem_cons.1 h with
    | inl e => subst e; omega
    | inr e => have := ih e; omega
theorem bulk_length {H : Type} (l : List (DataW H)) : l.length ≤ Rows.uptoBulkAll l := by
  induction l with
  | nil => simp [Rows.uptoBulkAll]
  | cons x r ih => have := bulk_one x; simp only [Rows.uptoBulkAll, List.length_cons]; omega
theorem bulk_bound {H : Type} {l : List (DataW H)} (hk : Rows.uptoSmall H l = true) : Rows.uptoBulkAll l ≤ 1048576 := of_decide_eq_true hk

theorem bulk_each {H : Type} {l : List (DataW H)} {c : Nat} (h : ∀ d ∈ l, c ≤ Rows.uptoBulk d) : c * l.length ≤ Rows.uptoBulkAll l := by
  induction l with
  | nil => simp [Rows.uptoBulkAll]
  | cons x r ih =>
    have h1 := h x List.mem_cons_self
    have h2 := ih (fun d hd => h d (List.mem_cons_of_mem _ hd))
    simp only [Rows.uptoBulkAll, List.length_cons]
    rw [Nat.mul_add]
    omega
/-- Numbers that were handed in. -/
theorem ints_in {H : Type} {enc : TypeId × Value → H} {W : World} {fuel : Nat} {v : Value} {x : DataW H × List MemPlace} (h : DataW.trod enc Tryz.prog W 0 (fun _ => true) true fuel 34 [v] = some x) : ∃ (ad : Option Addr) (len cap : Nat) (vs : List Int), v = .slice ad len cap ∧ Ints W ad len vs ∧ ∀ n ∈ vs, I64 n := by
  rcases open_ints Tryz.underlying34 Tryz.underlying3 Tryz.intCells h with ⟨e5, _⟩ | ⟨a, len, cap, zs, e5, _, hl, hm, hz, hx, hcell, hwf⟩
  · simp at e5
    subst e5
    exact ⟨none, 0, 0, [], rfl, ⟨rfl, fun _ hi => absurd hi (Nat.not_lt_zero _)⟩, fun x hx => by cases hx⟩
  · simp at e5
    subst e5
    simp only [if_true] at hz
    refine ⟨some a, len, cap, zs.take len, rfl, ⟨by simp; omega, fun i hi => ?_⟩, fun n hn => i64_wf (hwf n (List.mem_of_mem_take hn))⟩
    obtain ⟨b, off, rfl, hc⟩ := ints_at hcell (by omega)
    have hci := hc i (by omega)
    refine ⟨b, off, rfl, lt_of_cell hci, ?_⟩
    rw [hci, List.getD_eq_getElem?_getD, List.getD_eq_getElem?_getD, List.getElem?_take, if_pos hi]
end Go.Proofs.YtabecbjfamphbaaGreatDoor
