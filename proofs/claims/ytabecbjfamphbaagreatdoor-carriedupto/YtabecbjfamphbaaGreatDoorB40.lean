/-
  Texts that the proofs of this seat share, joined: Lz, Oc.
-/
import Derived.Test.YtabecbjfamphbaaGreatDoorB01
import Derived.Test.YtabecbjfamphbaaGreatDoorRows
import Derived.ProofKit
import Derived.LaidMore
import Derived.LaidSub
import Derived.Stop.LaidTwo
import Derived.Test.YtabecbjfamphbaaGreatDoorB39
import Derived.Stop.Joined
import Derived.Lib.SmallJoins
/- What the listed variables give the walks: the eight sentinels. -/
namespace Go.Proofs.YtabecbjfamphbaaGreatDoor
open Go.RowKit Go.Stop Go.Extern
set_option maxRecDepth 100000

theorem Tryz.cells1 : Tryz.prog.cellsOf 317 = 1 := by kernel_rfl
theorem Tryz.cellsS : Tryz.prog.cellsOf 9 = 1 := by kernel_rfl
theorem Tryz.star : "*" ++ "errors.errorString" = "*errors.errorString" := by decide
theorem Tryz.rowE (u : TypeId) (h : Tryz.prog.typeName? 3 u = some "*errors.errorString") : u = 298 :=
  typeName_ptr_named (nm := "errors.errorString") (by rw [Tryz.star]; kernel_rfl) (by kernel_rfl) (by decide) u (by rw [Tryz.star]; exact h)
theorem var_cell {W : World} {nm : String} {g : Nat} {v : Value} (hg : Tryz.prog.globalNamed nm = some g) (h : W.var? Tryz.prog nm = some #[v]) : W.cell? ⟨g, 0, none⟩ = some v := by
  have := World.var?_cell hg h 0
  simpa using this
def nOf (k : Nat) : String := match (Rows.causalRow.laid)[k - 1]? with
  | some (n, _) => n
  | none => ""
def tOf (k : Nat) : List UInt8 := match (Rows.causalRow.laid)[k - 1]? with
  | some (_, .iface _ (.ptr (.agg [.lit (.string t)]))) => t
  | _ => []
theorem pair_of {W : World} {l : List (String × DataW Unit)} (h : laidMet Tryz.prog l W) {n0 n1 : String} {x0 x1 : List UInt8} {g0 g1 : Nat}
    (hf : (l.filter fun x => x.1 == n0 || x.1 == n1) = [(n0, .iface "*errors.errorString" (.ptr (.agg [.lit (.string x0)]))), (n1, .iface "*errors.errorString" (.ptr (.agg [.lit (.string x1)])))])
    (hg0 : Tryz.prog.globalNamed n0 = some g0) (ht0 : (Tryz.prog.globals[g0]?).map (·.type) = some 98) (hg1 : Tryz.prog.globalNamed n1 = some g1) (ht1 : (Tryz.prog.globals[g1]?).map (·.type) = some 98) :
    ∃ a0 a1, W.cell? ⟨g0, 0, none⟩ = some (.iface 298 (.pointer (some a0))) ∧ W.cell? ⟨g1, 0, none⟩ = some (.iface 298 (.pointer (some a1))) ∧ a0 ≠ a1 ∧
      (∃ ca ta, W.heap[a0.block]? = some (.cells ca ta (0, 0))) ∧ (∃ ca ta, W.heap[a1.block]? = some (.cells ca ta (0, 0))) := by
  have h' := h.filter (fun x => x.1 == n0 || x.1 == n1)
  rw [hf] at h'
  obtain ⟨a0, a1, s0, s1, c0, c1, t0, t1, hv0, hv1, hc0, hs0, hz0, hc1, hs1, hz1, hne, hb0, hb1⟩ := laid_sentinels2 h' hg0 ht0 hg1 ht1 Tryz.underlying98 Tryz.rowE Tryz.underlying298 Tryz.underlying317 rfl rfl Tryz.underlying9 Tryz.cells1 Tryz.cellsS
  exact ⟨a0, a1, var_cell hg0 hv0, var_cell hg1 hv1, hne, ⟨c0, t0, hb0⟩, ⟨c1, t1, hb1⟩⟩
theorem pair_at {W : World} (h : laidMet Tryz.prog Rows.causalRow.laid W) (i j : Nat) (h1 : 1 ≤ i) (hij : i < j) (h8 : j ≤ 8) :
    ∃ a0 a1, W.cell? ⟨gOf i, 0, none⟩ = some (.iface 298 (.pointer (some a0))) ∧ W.cell? ⟨gOf j, 0, none⟩ = some (.iface 298 (.pointer (some a1))) ∧ a0 ≠ a1 ∧
      (∃ ca ta, W.heap[a0.block]? = some (.cells ca ta (0, 0))) ∧ (∃ ca ta, W.heap[a1.block]? = some (.cells ca ta (0, 0))) := by
  have hg : ∀ k, 1 ≤ k → k ≤ 8 → Tryz.prog.globalNamed (nOf k) = some (gOf k) ∧ (Tryz.prog.globals[gOf k]?).map (·.type) = some 98 := by
    intro k k1 k8
    rcases (by omega : k = 1 ∨ k = 2 ∨ k = 3 ∨ k = 4 ∨ k = 5 ∨ k = 6 ∨ k = 7 ∨ k = 8) with rfl | rfl | rfl | rfl | rfl | rfl | rfl | rfl <;> exact ⟨by kernel_rfl, by kernel_rfl⟩
  refine pair_of h (n0 := nOf i) (n1 := nOf j) (x0 := tOf i) (x1 := tOf j) ?_ (hg i h1 (by omega)).1 (hg i h1 (by omega)).2 (hg j (by omega) h8).1 (hg j (by omega) h8).2
  rcases (by omega : i = 1 ∨ i = 2 ∨ i = 3 ∨ i = 4 ∨ i = 5 ∨ i = 6 ∨ i = 7) with rfl | rfl | rfl | rfl | rfl | rfl | rfl <;>
    rcases (by omega : j = 2 ∨ j = 3 ∨ j = 4 ∨ j = 5 ∨ j = 6 ∨ j = 7 ∨ j = 8) with rfl | rfl | rfl | rfl | rfl | rfl | rfl <;> first | omega | kernel_rfl
theorem cell_ptr {W : World} {g : Nat} {a b : Addr} (h : W.cell? ⟨g, 0, none⟩ = some (.iface 298 (.pointer (some a)))) (h' : W.cell? ⟨g, 0, none⟩ = some (.iface 298 (.pointer (some b)))) : a = b := by
  rw [h] at h'
  cases h'
  rfl
theorem sents_of {W : World} (h : laidMet Tryz.prog Rows.causalRow.laid W) : ∃ A, Sents W A := by
  have hs : ∀ k, 1 ≤ k → k ≤ 8 → ∃ a, W.cell? ⟨gOf k, 0, none⟩ = some (.iface 298 (.pointer (some a))) ∧ ∃ ca ta, W.heap[a.block]? = some (.cells ca ta (0, 0)) := by
    intro k k1 k8
    by_cases hk : k = 8
    · subst hk
      obtain ⟨a0, a1, _, h2, _, _, h5⟩ := pair_at h 1 8 (by omega) (by omega) (by omega)
      exact ⟨a1, h2, h5⟩
    · obtain ⟨a0, a1, h1, _, _, h4, _⟩ := pair_at h k 8 k1 (by omega) (by omega)
      exact ⟨a0, h1, h4⟩
  refine ⟨fun k => if hk : 1 ≤ k ∧ k ≤ 8 then Classical.choose (hs k hk.1 hk.2) else ⟨0, 0, none⟩, ⟨?_, ?_, ?_⟩⟩
  · intro k k1 k8
    simp only [dif_pos (And.intro k1 k8)]
    exact (Classical.choose_spec (hs k k1 k8)).1
  · intro i j i1 i8 j1 j8 hne
    simp only [dif_pos (And.intro i1 i8), dif_pos (And.intro j1 j8)]
    have ci := (Classical.choose_spec (hs i i1 i8)).1
    have cj := (Classical.choose_spec (hs j j1 j8)).1
    rcases Nat.lt_or_gt_of_ne hne with hlt | hlt
    · obtain ⟨a0, a1, h1, h2, h3, _, _⟩ := pair_at h i j i1 hlt j8
      rw [cell_ptr ci h1, cell_ptr cj h2]
      exact h3
    · obtain ⟨a0, a1, h1, h2, h3, _, _⟩ := pair_at h j i j1 hlt i8
      rw [cell_ptr ci h2, cell_ptr cj h1]
      exact h3.symm
  · intro k k1 k8
    simp only [dif_pos (And.intro k1 k8)]
    exact (Classical.choose_spec (hs k k1 k8)).2
theorem sent_of_laid {W : World} (h : laidMetH Tryz.prog Rows.causalRow.laid W) : ∃ a0 a1, Sent W a0 a1 := by
  rw [MakeChecks.laidMetH_plain _ _ _ (by kernel_rfl)] at h
  obtain ⟨A, hA⟩ := sents_of h
  exact ⟨A 1, A 5, ⟨A, hA, rfl, rfl⟩⟩
end Go.Proofs.YtabecbjfamphbaaGreatDoor

/- What was handed in, opened: a group, a script and how long it may be. -/
namespace Go.Proofs.YtabecbjfamphbaaGreatDoor
open Go.ChangeShapes Go.WideShapes Go.ChangeAt Go.WideMaps Go.WideElems Go.RowKit Go.Joins Go.Deep
set_option maxRecDepth 100000

theorem Tryz.own : ownKnob Tryz.prog.godebug = none := by kernel_rfl
theorem Tryz.laidOut : laidOutB Tryz.prog = true := by kernel_rfl
theorem Tryz.cellsC : Tryz.prog.cellsOf 26 = 4 := by kernel_rfl
/-- A group that was handed in. -/
theorem config_of {H : Type} {enc : TypeId × Value → H} {W : World} {r : Reach} {b0 : Nat} {v : Value} {d : DataW H} {p : List MemPlace} (hv : Value.okWide Tryz.prog W r b0 26 v) (h : DataW.Trod enc Tryz.prog W 0 (fun _ => true) true 26 v d p) :
    ∃ N W' B L : Int, v = .agg #[.int .i64 N, .int .i64 W', .int .i64 B, .int .i64 L] ∧ I64 N ∧ I64 W' ∧ I64 B ∧ I64 L := by
  obtain ⟨c0, c1, c2, c3, y0, y1, y2, y3, n, rfl, _, _, h0, h1, h2, h3⟩ := open_agg4 Tryz.underlying26 (by kernel_rfl) Tryz.cellsC hv h
  obtain ⟨N, e0, _, z0⟩ := DataW.trod_int Tryz.underlying3 h0
  obtain ⟨W', e1, _, z1⟩ := DataW.trod_int Tryz.underlying3 h1
  obtain ⟨B, e2, _, z2⟩ := DataW.trod_int Tryz.underlying3 h2
  obtain ⟨L, e3, _, z3⟩ := DataW.trod_int Tryz.underlying3 h3
  simp at e0 e1 e2 e3
  subst e0 e1 e2 e3
  exact ⟨N, W', B, L, rfl, i64_wf z0, i64_wf z1, i64_wf z2, i64_wf z3⟩

theorem bulk_one {H : Type} (d : DataW H) : 1 ≤ Rows.uptoBulk d := by
  cases d with
  | lit l => cases l <;> simp [Rows.uptoBulk]
  | nil => simp [Rows.uptoBulk]
  | ptr d => simp [Rows.uptoBulk]
  | slice elems spare => simp [Rows.uptoBulk]
  | agg parts => simp [Rows.uptoBulk]
  | iface t d => simp [Rows.uptoBulk]
  | map entries => simp [Rows.uptoBulk]
  | held h => simp [Rows.uptoBulk]
theorem bulk_part {H : Type} {d : DataW H} {l : List (DataW H)} (h : d ∈ l) : Rows.uptoBulk d ≤ Rows.uptoBulkAll l := by
  induction l with
  | nil => cases h
  | cons x r ih =>
    simp only [Rows.uptoBulkAll]
    cases List.mem_cons.1 h with
    | inl e => subst e; omega
    | inr e => have := ih e; omega
theorem bulk_length {H : Type} (l : List (DataW H)) : l.length ≤ Rows.uptoBulkAll l := by
  induction l with
  | nil => simp [Rows.uptoBulkAll]
  | cons x r ih => have := bulk_one x; simp only [Rows.uptoBulkAll, List.length_cons]; omega
theorem bulk_slice {H : Type} (elems spare : List (DataW H)) : elems.length + 1 ≤ Rows.uptoBulk (.slice elems spare) := by
  have h1 := bulk_length elems
  simp only [Rows.uptoBulk]
  omega
theorem bulk_bound {H : Type} {l : List (DataW H)} (hk : Rows.uptoSmall H l = true) : Rows.uptoBulkAll l ≤ 1048576 := of_decide_eq_true hk

/-- A slice that was handed in is no longer than its bulk. -/
theorem slice_short {H : Type} {enc : TypeId × Value → H} {w : World} {base : Nat} {spare : Nat → Bool} {held : Bool} {t e : TypeId} {fuel : Nat} {x : DataW H × List MemPlace} {ad : Option Addr} {len cap : Nat}
    (ht : Tryz.prog.underlying t = some (.slice e)) (h : DataW.trod enc Tryz.prog w base spare held fuel t [.slice ad len cap] = some x) : len ≤ Rows.uptoBulk x.1 := by
  rcases open_slice ht h with ⟨hc, rfl⟩ | ⟨a, len', cap', m, n, D, Pl, hc, _, hl, _, hm, hx, _⟩
  · simp at hc
    obtain ⟨_, rfl, _⟩ := hc
    omega
  · simp at hc
    obtain ⟨_, rfl, _⟩ := hc
    subst hx
    have := bulk_slice ((List.range len).map D) ((List.range (m - len)).map fun j => D (len + j))
    simp at this ⊢
    omega
theorem bulk_each {H : Type} {l : List (DataW H)} {c : Nat} (h : ∀ d ∈ l, c ≤ Rows.uptoBulk d) : c * l.length ≤ Rows.uptoBulkAll l := by
  induction l with
  | nil => simp [Rows.uptoBulkAll]
  | cons x r ih =>
    have h1 := h x List.mem_cons_self
    have h2 := ih (fun d hd => h d (List.mem_cons_of_mem _ hd))
    simp only [Rows.uptoBulkAll, List.length_cons]
    rw [Nat.mul_add]
    omega
theorem step_bulk {H : Type} {enc : TypeId × Value → H} {w : World} {base : Nat} {spare : Nat → Bool} {held : Bool} {n : Nat} {cs : List Value} {x : DataW H × List MemPlace} (h : DataW.trod enc Tryz.prog w base spare held n 47 cs = some x) : 7 ≤ Rows.uptoBulk x.1 := by
  obtain ⟨xs, m, _, rfl, _, hxl, _⟩ := DataW.trod_struct Tryz.underlying47 h
  have hxl' : xs.length = 6 := hxl
  have h1 := bulk_length (xs.map (·.1))
  rw [List.length_map, hxl'] at h1
  simp only [Rows.uptoBulk]
  omega
/-- A script that was handed in. -/
theorem script_of {H : Type} {enc : TypeId × Value → H} {W : World} {v : Value} {d : DataW H} {p : List MemPlace} {r : Reach} {b0 : Nat} (hv : Value.okWide Tryz.prog W r b0 27 v) (h : DataW.Trod enc Tryz.prog W 0 (fun _ => true) true 27 v d p) :
    ∃ (ad : Option Addr) (cap : Nat) (ops : List Stp), v = .slice ad ops.length cap ∧ Scr W W.heap.size ad ops ∧ 7 * ops.length ≤ Rows.uptoBulk d := by
  obtain ⟨ad, len, cap, rfl⟩ := okWide_slice Tryz.underlying27 hv
  obtain ⟨fuel, hf⟩ := h
  obtain ⟨ad', cap', ops, hc, hs⟩ := scr_of hf
  have hc' : [Value.slice ad len cap] = [.slice ad' ops.length cap'] := hc
  simp at hc'
  obtain ⟨rfl, rfl, rfl⟩ := hc'
  refine ⟨ad, cap, ops, rfl, hs, ?_⟩
  rcases open_slice Tryz.underlying27 hf with ⟨hc, _⟩ | ⟨a, len', cap', m, n, D, Pl, hc, _, hl, _, hm, hx, he⟩
  · have hc' : [Value.slice ad ops.length cap] = [.slice none 0 0] := hc
    simp at hc'
    obtain ⟨_, e, _⟩ := hc'
    simp [e]
  · have hc' : [Value.slice ad ops.length cap] = [.slice (some a) len' cap'] := hc
    simp at hc'
    obtain ⟨_, e, _⟩ := hc'
    have hml : len' ≤ m := by rw [hm]; split <;> omega
    have hx' : d = .slice ((List.range len').map D) ((List.range (m - len')).map fun j => D (len' + j)) := congrArg Prod.fst hx
    have h1 := bulk_each (c := 7) (l := (List.range len').map D) (fun y hy => by
      obtain ⟨i, hi, rfl⟩ := List.mem_map.1 hy
      obtain ⟨cs', _, ht⟩ := he i (by have := List.mem_range.1 hi; omega)
      exact step_bulk ht)
    rw [hx']
    simp only [Rows.uptoBulk]
    rw [List.length_map, List.length_range] at h1
    omega
/-- Numbers that were handed in. -/
theorem ints_in {H : Type} {enc : TypeId × Value → H} {W : World} {fuel : Nat} {v : Value} {x : DataW H × List MemPlace} (h : DataW.trod enc Tryz.prog W 0 (fun _ => true) true fuel 34 [v] = some x) : ∃ (ad : Option Addr) (len cap : Nat) (vs : List Int), v = .slice ad len cap ∧ Ints W ad len vs ∧ ∀ n ∈ vs, I64 n := by
  rcases open_ints Tryz.underlying34 Tryz.underlying3 Tryz.intCells h with ⟨e5, _⟩ | ⟨a, len, cap, zs, e5, _, hl, hm, hz, hx, hcell, hwf⟩
  · simp at e5
    subst e5
    exact ⟨none, 0, 0, [], rfl, ⟨rfl, fun _ hi => absurd hi (Nat.not_lt_zero _)⟩, fun x hx => by cases hx⟩
  · simp at e5
    subst e5
    simp only [if_true] at hz
    refine ⟨some a, len, cap, zs.take len, rfl, ⟨by simp; omega, fun i hi => ?_⟩, fun n hn => i64_wf (hwf n (List.mem_of_mem_take hn))⟩
    obtain ⟨b, off, rfl, hc⟩ := ints_at hcell (by omega)
    have hci := hc i (by omega)
    refine ⟨b, off, rfl, lt_of_cell hci, ?_⟩
    rw [hci, List.getD_eq_getElem?_getD, List.getD_eq_getElem?_getD, List.getElem?_take, if_pos hi]
theorem order_of {H : Type} {enc : TypeId × Value → H} {W : World} {r : Reach} {b0 : Nat} {v : Value} {d : DataW H} {p : List MemPlace} (hv : Value.okWide Tryz.prog W r b0 34 v) (h : DataW.Trod enc Tryz.prog W 0 (fun _ => true) true 34 v d p) : ∃ (ad : Option Addr) (len cap : Nat) (vs : List Int), v = .slice ad len cap ∧ Ints W ad len vs ∧ ∀ n ∈ vs, I64 n := by
  obtain ⟨ad, len, cap, rfl⟩ := okWide_slice Tryz.underlying34 hv
  obtain ⟨fuel, hf⟩ := h
  exact ints_in hf
/-- The sentinels that a row lists. -/
theorem sl_of {W : World} (h : laidMetH Tryz.prog Rows.causalRow.laid W) : ∃ A, Sl W A W.heap.size := by
  rw [MakeChecks.laidMetH_plain _ _ _ (by kernel_rfl)] at h
  obtain ⟨A, hA⟩ := sents_of h
  exact ⟨A, hA, fun k h1 h2 => ⟨lt_of_cell (hA.c k h1 h2), by
    obtain ⟨ca, ta, e⟩ := hA.b k h1 h2
    exact lt_of_some e⟩⟩
end Go.Proofs.YtabecbjfamphbaaGreatDoor
