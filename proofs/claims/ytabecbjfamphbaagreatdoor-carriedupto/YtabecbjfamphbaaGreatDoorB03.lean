/-
  Texts that the proofs of this seat share, joined: Rules, Row, Alike, Nd, HDec0, St, Del.
-/
import Derived.Test.YtabecbjfamphbaaGreatDoorB02
import Derived.Test.YtabecbjfamphbaaGreatDoorB01
import Derived.Deep.QuietTactic
/- The walks of the program's rules on frames: checkKind, checkFrom, checkVector, checkState, checkData, checkFrame. -/
namespace Go.Proofs.YtabecbjfamphbaaGreatDoor
open Go.RowKit Go.Stop Go.Extern

theorem below1 (w : World) (o : Obj) : Below w.heap.size w (w.alloc o) := (Below.refl _ _).alloc (Nat.le_refl _) _
theorem below2 (w : World) (o p : Obj) : Below w.heap.size w ((w.alloc o).alloc p) := (below1 w o).alloc (by simp) _

/-- A list of numbers behind a slice's address. -/
structure Ints (w : World) (ad : Option Addr) (n : Nat) (vs : List Int) : Prop where
  len : vs.length = n
  cell : ∀ i : Nat, i < n → ∃ b off, ad = some ⟨b, off, none⟩ ∧ b < w.heap.size ∧ w.cell? ⟨b, off + i, none⟩ = some (.int .i64 (vs.getD i 0))
theorem Ints.below {w w' : World} {ad : Option Addr} {n : Nat} {vs : List Int} (h : Ints w ad n vs) (hb : Below w.heap.size w w') : Ints w' ad n vs :=
  ⟨h.len, fun i hi => by
    obtain ⟨b, off, e, hlt, hc⟩ := h.cell i hi
    exact ⟨b, off, e, Nat.lt_of_lt_of_le hlt hb.size, (hb.cell (p := ⟨b, off + i, none⟩) hlt).trans hc⟩⟩
theorem Ints.alloc {w : World} {ad : Option Addr} {n : Nat} {vs : List Int} (h : Ints w ad n vs) (o : Obj) : Ints (w.alloc o) ad n vs := h.below (below1 w o)
theorem Ints.drew {w : World} {ad : Option Addr} {n : Nat} {vs : List Int} (h : Ints w ad n vs) : Ints w.drew ad n vs := h.below (Below.refl _ _).drew

/-- What a rule answers: nothing; 'no frame'; 'no frame' at a place. -/
structure IsF (a1 : Addr) (v : Value) (r : Option (Option Int)) : Prop where
  how : (r = none ∧ v = .nilIface) ∨ (r = some none ∧ ∃ s, v = .iface 208 (.agg #[.string s, .iface 298 (.pointer (some a1))]))
    ∨ (∃ p s, r = some (some p) ∧ v = .iface 247 (.agg #[.int .i64 p, .iface 208 (.agg #[.string s, .iface 298 (.pointer (some a1))])]))
theorem IsF.nil (a1 : Addr) : IsF a1 .nilIface none := ⟨Or.inl ⟨rfl, rfl⟩⟩
theorem IsF.why (a1 : Addr) (s : ByteArray) : IsF a1 (.iface 208 (.agg #[.string s, .iface 298 (.pointer (some a1))])) (some none) := ⟨Or.inr (Or.inl ⟨rfl, s, rfl⟩)⟩
theorem IsF.at (a1 : Addr) (p : Int) (s : ByteArray) : IsF a1 (.iface 247 (.agg #[.int .i64 p, .iface 208 (.agg #[.string s, .iface 298 (.pointer (some a1))])])) (some (some p)) := ⟨Or.inr (Or.inr ⟨p, s, rfl, rfl⟩)⟩
theorem IsF.nil_iff {a1 : Addr} {v : Value} {r : Option (Option Int)} (h : IsF a1 v r) : (r = none → v = .nilIface) ∧ (∀ x, r = some x → ∃ t y, v = .iface t y) := by
  rcases h.how with ⟨rfl, rfl⟩ | ⟨rfl, s, rfl⟩ | ⟨p, s, rfl, rfl⟩
  · exact ⟨fun _ => rfl, fun x hx => (by cases hx)⟩
  · exact ⟨fun hx => (by cases hx), fun x hx => ⟨_, _, rfl⟩⟩
  · exact ⟨fun hx => (by cases hx), fun x hx => ⟨_, _, rfl⟩⟩
theorem IsF.err {a0 a1 : Addr} {v : Value} {r : Option (Option Int)} (h : IsF a1 v r) : IsErr a0 a1 v (if r = none then 0 else 5) := by
  rcases h.how with ⟨rfl, rfl⟩ | ⟨rfl, s, rfl⟩ | ⟨p, s, rfl, rfl⟩
  · exact ⟨Or.inl ⟨rfl, rfl⟩⟩
  · exact ⟨Or.inr (Or.inr (Or.inl ⟨s, rfl, rfl⟩))⟩
  · exact ⟨Or.inr (Or.inr (Or.inr ⟨p, s, rfl, rfl⟩))⟩

/-! The rules as functions. -/
def rKind (K : Int) : Option (Option Int) := if K = 1 ∨ K = 2 then none else some (some 2)
def rFrom (N F : Int) : Option (Option Int) := if 0 ≤ F ∧ F < N then none else some (some 4)
def vbad (L K O S : Int) (i : Nat) (v : Int) : Bool := decide (v < 0 ∨ L < v ∨ (K = 1 ∧ (i : Int) = O ∧ v ≠ S - 1))
def vfirst (L K O S : Int) (vs : List Int) : Option Nat := (List.range vs.length).find? fun i => vbad L K O S i (vs.getD i 0)
def vAt (K : Int) : Int := if K = 1 then 10 else 5
def rVec (N L K O S : Int) (vs : List Int) : Option (Option Int) := if (vs.length : Int) = N then (vfirst L K O S vs).map fun i => some (vAt K + 2 * (i : Int)) else some none
def rState (N L K O S Lw : Int) (vs : List Int) (body : Bool) : Option (Option Int) := if O = 0 ∧ S = 0 ∧ Lw = 0 ∧ body = true then rVec N L K O S vs else some none
def rData (N W B L K O S Lw : Int) (vs : List Int) (n : Nat) : Option (Option Int) :=
  if ¬ (0 ≤ O ∧ O < N) then some (some 5) else if S < 1 ∨ L < S then some (some 6) else if Lw < 0 ∨ S ≤ Lw ∨ Lw < S - W then some (some 8) else
  match rVec N L K O S vs with
  | some x => some x
  | none => if B < (n : Int) then some (some (10 + 2 * N)) else none

theorem find_none {p : Nat → Bool} {n : Nat} (h : ∀ i, i < n → p i = false) : (List.range n).find? p = none := by
  rw [List.find?_eq_none]; intro i hi; simp [h i (by simpa using hi)]
theorem find_some {p : Nat → Bool} {n k : Nat} (hk : k < n) (hp : p k = true) (h : ∀ i, i < k → p i = false) : (List.range n).find? p = some k := by
  rw [List.find?_eq_some_iff_append]
  refine ⟨hp, List.range k, (List.range (n - k - 1)).map (k + 1 + ·), ?_, fun i hi => by simp [h i (by simpa using hi)]⟩
  have e : n = k + (1 + (n - k - 1)) := by omega
  conv => lhs; rw [e]
  rw [List.range_add, List.range_add]
  simp [Function.comp_def, Nat.add_assoc]

set_option maxHeartbeats 400000 in
theorem has_any (N W B L p : Int) (w : World) :
    Calls Tryz.prog 89 #[.agg #[.int .i64 N, .int .i64 W, .int .i64 B, .int .i64 L], .int .i64 p] w fun e w' => e = .returned (.bool (decide (0 ≤ p ∧ p < N))) ∧ Below w.heap.size w w' := by
  by_cases h1 : 0 ≤ p
  · by_cases h2 : p < N
    · rw [decide_eq_true (by exact ⟨h1, h2⟩)]
      go_enter Tryz.func89, Tryz.ntmps89
      go_wp2
      go_ret
      exact ⟨rfl, below1 _ _⟩
    · rw [decide_eq_false (by omega)]
      go_enter Tryz.func89, Tryz.ntmps89
      go_wp2
      go_ret
      exact ⟨rfl, below1 _ _⟩
  · rw [decide_eq_false (by omega)]
    go_enter Tryz.func89, Tryz.ntmps89
    go_wp2
    go_ret
    exact ⟨rfl, below1 _ _⟩

set_option maxHeartbeats 400000 in
theorem vectorAt_any (K : Int) (w : World) :
    Calls Tryz.prog 237 #[.int .i64 K] w fun e w' => e = .returned (.int .i64 (vAt K)) ∧ w' = w := by
  by_cases h : K = 1
  · subst h
    go_enter Tryz.func237, Tryz.ntmps237
    go_wp2
    go_ret
    exact ⟨rfl, rfl⟩
  · have hb : (K == 1) = false := beq_eq_false_iff_ne.2 h
    have hv : vAt K = 5 := if_neg h
    rw [hv]
    clear h hv
    go_enter Tryz.func237, Tryz.ntmps237
    go_wp2
    go_ret
    exact ⟨rfl, rfl⟩
set_option maxHeartbeats 400000 in
theorem sizeAt_any (N W B L : Int) (h1 : 2 ≤ N) (h2 : N ≤ 8) (w : World) :
    Calls Tryz.prog 229 #[.agg #[.int .i64 N, .int .i64 W, .int .i64 B, .int .i64 L]] w fun e w' => e = .returned (.int .i64 (10 + 2 * N)) ∧ Below w.heap.size w w' := by
  go_enter Tryz.func229, Tryz.ntmps229
  go_wp2
  go_ret
  exact ⟨rfl, below1 _ _⟩

set_option maxHeartbeats 400000 in
theorem checkKind_any (a0 a1 : Addr) (K F O S Lw : Int) (ad : Option Addr) (len cap : Nat) (body : ByteArray) (w : World) (hw : Sent w a0 a1) :
    Calls Tryz.prog 204 #[.agg #[.int .i64 K, .int .i64 F, .int .i64 O, .int .i64 S, .int .i64 Lw, .slice ad len cap, .string body]] w fun e w' => (∃ v, e = .returned v ∧ IsF a1 v (rKind K)) ∧ Below w.heap.size w w' := by
  have HW : Hid (Sent w a0 a1) := hw
  clear hw
  by_cases h1 : K = 1
  · rw [show rKind K = none from if_pos (Or.inl h1)]
    subst h1
    go_enter Tryz.func204, Tryz.ntmps204
    go_wp2
    go_ret
    exact ⟨⟨_, rfl, IsF.nil a1⟩, below1 _ _⟩
  · by_cases h2 : K = 2
    · rw [show rKind K = none from if_pos (Or.inr h2)]
      subst h2
      clear h1
      go_enter Tryz.func204, Tryz.ntmps204
      go_wp2
      go_ret
      exact ⟨⟨_, rfl, IsF.nil a1⟩, below1 _ _⟩
    · rw [show rKind K = some (some 2) from if_neg (by omega)]
      have hb1 : (K != 1) = true := bne_iff_ne.2 h1
      have hb2 : (K != 2) = true := bne_iff_ne.2 h2
      clear h1 h2
      go_enter Tryz.func204, Tryz.ntmps204
      go_wp2_with (go_at_call 209; refine (refuseAt_any a0 a1 _ _ _ (HW.out.alloc _)).mono ?_; rintro e w' ⟨rfl, rfl⟩)
      go_ret
      exact ⟨⟨_, rfl, IsF.at a1 _ _⟩, below1 _ _⟩

set_option maxHeartbeats 400000 in
theorem checkFrom_any (a0 a1 : Addr) (N W B L K F O S Lw : Int) (ad : Option Addr) (len cap : Nat) (body : ByteArray) (w : World) (hw : Sent w a0 a1) :
    Calls Tryz.prog 205 #[.agg #[.int .i64 N, .int .i64 W, .int .i64 B, .int .i64 L], .agg #[.int .i64 K, .int .i64 F, .int .i64 O, .int .i64 S, .int .i64 Lw, .slice ad len cap, .string body]] w fun e w' => (∃ v, e = .returned v ∧ IsF a1 v (rFrom N F)) ∧ Below w.heap.size w w' := by
  have HW : Hid (Sent w a0 a1) := hw
  clear hw
  by_cases h : 0 ≤ F ∧ F < N
  · rw [show rFrom N F = none from if_pos h]
    have hd : decide (0 ≤ F ∧ F < N) = true := decide_eq_true h
    clear h
    go_enter Tryz.func205, Tryz.ntmps205
    go_wp2_with fail
    refine (has_any N W B L F _).mono ?_
    rintro e w' ⟨rfl, hb⟩
    have HB : Hid _ := hb
    clear hb
    rw [hd]
    go_wp2
    go_ret
    exact ⟨⟨_, rfl, IsF.nil a1⟩, bthen (below2 _ _ _) HB.out⟩
  · rw [show rFrom N F = some (some 4) from if_neg h]
    have hd : decide (0 ≤ F ∧ F < N) = false := decide_eq_false h
    clear h
    go_enter Tryz.func205, Tryz.ntmps205
    go_wp2_with fail
    refine (has_any N W B L F _).mono ?_
    rintro e w' ⟨rfl, hb⟩
    have HB : Hid _ := hb
    clear hb
    rw [hd]
    go_wp2_with (go_at_call 209; refine (refuseAt_any a0 a1 _ _ _ (((HW.out.alloc _).alloc _).below HB.out)).mono ?_; rintro e w' ⟨rfl, rfl⟩)
    go_ret
    exact ⟨⟨_, rfl, IsF.at a1 _ _⟩, bthen (below2 _ _ _) HB.out⟩
end Go.Proofs.YtabecbjfamphbaaGreatDoor

/- A row of numbers in a block of its own. -/
namespace Go.Proofs.YtabecbjfamphbaaGreatDoor
open Go.RowKit Go.Stop Go.Extern

/-- A block of numbers. -/
def RowI (w : World) (g : Nat) (zs : List Int) : Prop := w.heap[g]? = some (.cells (zs.map (Value.int .i64)).toArray 3 (0, 0))
theorem RowI.cell {w : World} {g : Nat} {zs : List Int} (h : RowI w g zs) {j : Nat} (hj : j < zs.length) : w.cell? ⟨g, j, none⟩ = some (.int .i64 (zs.getD j 0)) := by
  rw [cell_of_row w g j _ 3 (0, 0) h]
  simp [List.getD_eq_getElem?_getD, hj]
theorem RowI.free {w : World} {g : Nat} {zs : List Int} (h : RowI w g zs) (j : Nat) : w.frozen? ⟨g, j, none⟩ = false := frozen_of_row w g j _ 3 h
theorem RowI.set {w : World} {g : Nat} {zs : List Int} (h : RowI w g zs) (j : Nat) (x : Int) : RowI (w.setCell ⟨g, j, none⟩ (.int .i64 x)) g (zs.set j x) := by
  have := heap_setCell_same w g j _ 3 (.int .i64 x) h
  unfold RowI
  rw [this]
  simp
theorem RowI.below {w w' : World} {g : Nat} {zs : List Int} (h : RowI w g zs) {B : Nat} (hb : Below B w w') (hg : g < B) : RowI w' g zs := (hb.block g hg).trans h
theorem RowI.lt {w : World} {g : Nat} {zs : List Int} (h : RowI w g zs) : g < w.heap.size := lt_of_some h
theorem RowI.ints {w : World} {g : Nat} {vs ms : List Int} (h : RowI w g (vs ++ ms)) : Ints w (some ⟨g, 0, none⟩) vs.length vs :=
  ⟨rfl, fun i hi => ⟨g, 0, rfl, h.lt, by
    have := h.cell (j := i) (by simp; omega)
    rw [Nat.zero_add, this]
    simp [List.getD_eq_getElem?_getD, List.getElem?_append_left hi]⟩⟩
end Go.Proofs.YtabecbjfamphbaaGreatDoor

/- The same memory but for some blocks. -/
namespace Go.Proofs.YtabecbjfamphbaaGreatDoor
open Go.RowKit Go.Stop Go.Extern

/-- The same memory but for some blocks, and new ones. -/
structure Alike (w w' : World) (E : Nat → Prop) : Prop where
  size : w.heap.size ≤ w'.heap.size
  block : ∀ k, k < w.heap.size → ¬ E k → w'.heap[k]? = w.heap[k]?
  same : w'.os = w.os ∧ w'.tape = w.tape ∧ w'.output = w.output
theorem Alike.refl (w : World) (E : Nat → Prop) : Alike w w E := ⟨Nat.le_refl _, fun _ _ _ => rfl, rfl, rfl, rfl⟩
theorem Alike.trans {w w' w'' : World} {E E' : Nat → Prop} (h : Alike w w' E) (h' : Alike w' w'' E') (hE : ∀ k, k < w.heap.size → E' k → E k) : Alike w w'' E :=
  ⟨Nat.le_trans h.size h'.size, fun k hk hn => (h'.block k (Nat.lt_of_lt_of_le hk h.size) (fun he => hn (hE k hk he))).trans (h.block k hk hn), h'.same.1.trans h.same.1, h'.same.2.1.trans h.same.2.1, h'.same.2.2.trans h.same.2.2⟩
theorem Alike.of_below {w w' : World} (h : Below w.heap.size w w') (E : Nat → Prop) : Alike w w' E := ⟨h.size, fun k hk _ => h.block k hk, h.os, h.tape, h.output⟩
theorem Alike.of_grown {w w' : World} {row : Option Nat} (h : w.grownBy w' row) : Alike w w' (fun k => row = some k) := by
  obtain ⟨h1, h2, h3, hs, hb⟩ := h
  exact ⟨hs, fun k hk hn => hb k hk (fun e => hn e.symm), h1, h2, h3⟩
theorem Alike.alloc (w : World) (o : Obj) (E : Nat → Prop) : Alike w (w.alloc o) E := ⟨by simp, fun k hk _ => Below.heap_alloc _ _ _ hk, rfl, rfl, rfl⟩
theorem Alike.setCell (w : World) (a : Addr) (v : Value) : Alike w (w.setCell a v) (fun k => k = a.block) := ⟨by simp [World.setCell], fun k _ hn => heap_setCell_other w a k v hn, rfl, rfl, rfl⟩
theorem Alike.cell {w w' : World} {E : Nat → Prop} (h : Alike w w' E) {b i : Nat} {v : Value} (hc : w.cell? ⟨b, i, none⟩ = some v) (hE : ¬ E b) : w'.cell? ⟨b, i, none⟩ = some v := by
  rw [World.cell?_of_block (w := w) (h.block b (lt_of_cell hc) hE)]; exact hc
theorem Alike.frozen {w w' : World} {E : Nat → Prop} (h : Alike w w' E) {b i : Nat} (hb : b < w.heap.size) (hf : w.frozen? ⟨b, i, none⟩ = false) (hE : ¬ E b) : w'.frozen? ⟨b, i, none⟩ = false := by
  rw [World.frozen?_of_block (w := w) (h.block b hb hE)]; exact hf
end Go.Proofs.YtabecbjfamphbaaGreatDoor

/- A node in memory: its group, itself, its views. The walks of clock, learn, low. -/
namespace Go.Proofs.YtabecbjfamphbaaGreatDoor
open Go.RowKit Go.Stop Go.Extern

/-- The node's own cells but for its store and its words. -/
structure NB (w : World) (b : Nat) (n : Nat) (W B L : Int) (p : Nat) (gv : Nat) : Prop where
  c0 : w.cell? ⟨b, 0, none⟩ = some (.int .i64 (n : Int))
  c1 : w.cell? ⟨b, 1, none⟩ = some (.int .i64 W)
  c2 : w.cell? ⟨b, 2, none⟩ = some (.int .i64 B)
  c3 : w.cell? ⟨b, 3, none⟩ = some (.int .i64 L)
  c4 : w.cell? ⟨b, 4, none⟩ = some (.int .i64 (p : Int))
  c5 : w.cell? ⟨b, 5, none⟩ = some (.slice (some ⟨gv, 0, none⟩) n n)
  ty : ∃ cur, w.heap[b]? = some (.cells cur 149 (0, 0))
/-- The views: a row of slices, each a row of numbers. -/
structure NVw (w : World) (gv n : Nat) (rows : List Nat) (vs : List (List Int)) : Prop where
  row : ∀ q, q < n → w.cell? ⟨gv, q, none⟩ = some (.slice (some ⟨rows.getD q 0, 0, none⟩) n n)
  ty : ∃ cur, w.heap[gv]? = some (.cells cur 34 (0, 0))
  each : ∀ q, q < n → RowI w (rows.getD q 0) (vs.getD q [])
  rlen : rows.length = n
  vlen : vs.length = n
  elen : ∀ q, q < n → (vs.getD q []).length = n
  nodup : rows.Nodup
theorem ty_ne {w : World} {j k : Nat} {c c' : Array Value} {t t' : TypeId} {f f' : Nat × Nat} (h : w.heap[j]? = some (.cells c t f)) (h' : w.heap[k]? = some (.cells c' t' f')) (ht : t ≠ t') : j ≠ k := by
  rintro rfl
  rw [h] at h'
  cases h'
  exact ht rfl
theorem NB.alike {w w' : World} {b n : Nat} {W B L : Int} {p gv : Nat} {E : Nat → Prop} (h : NB w b n W B L p gv) (ha : Alike w w' E) (hE : ¬ E b) : NB w' b n W B L p gv := by
  obtain ⟨c0, c1, c2, c3, c4, c5, cur, ht⟩ := h
  exact ⟨ha.cell c0 hE, ha.cell c1 hE, ha.cell c2 hE, ha.cell c3 hE, ha.cell c4 hE, ha.cell c5 hE, cur, (ha.block b (lt_of_some ht) hE).trans ht⟩
theorem NVw.alike {w w' : World} {gv n : Nat} {rows : List Nat} {vs : List (List Int)} {E : Nat → Prop} (h : NVw w gv n rows vs) (ha : Alike w w' E) (hg : ¬ E gv) (hr : ∀ q, q < n → ¬ E (rows.getD q 0)) : NVw w' gv n rows vs := by
  obtain ⟨cur, ht⟩ := h.ty
  exact ⟨fun q hq => ha.cell (h.row q hq) hg, ⟨cur, (ha.block gv (lt_of_some ht) hg).trans ht⟩, fun q hq => (ha.block _ (h.each q hq).lt (hr q hq)).trans (h.each q hq), h.rlen, h.vlen, h.elen, h.nodup⟩
theorem NVw.shp {w : World} {gv n : Nat} {rows : List Nat} {vs : List (List Int)} (h : NVw w gv n rows vs) : Shp vs n := ⟨h.vlen, h.elen⟩
theorem NVw.cell {w : World} {gv n : Nat} {rows : List Nat} {vs : List (List Int)} (h : NVw w gv n rows vs) {q o : Nat} (hq : q < n) (ho : o < n) : w.cell? ⟨rows.getD q 0, o, none⟩ = some (.int .i64 (vw vs q o)) :=
  (h.each q hq).cell (by rw [h.elen q hq]; exact ho)
theorem NVw.set {w : World} {gv n : Nat} {rows : List Nat} {vs : List (List Int)} (h : NVw w gv n rows vs) {q o : Nat} (hq : q < n) (x : Int) : NVw (w.setCell ⟨rows.getD q 0, o, none⟩ (.int .i64 x)) gv n rows (vset vs q o x) := by
  obtain ⟨cur, ht⟩ := h.ty
  have hv := h.vlen
  have hr := h.rlen
  have hne : gv ≠ rows.getD q 0 := ty_ne ht (h.each q hq) (by decide)
  have ha := Alike.setCell w ⟨rows.getD q 0, o, none⟩ (.int .i64 x)
  have hget : ∀ j, j < n → (vset vs q o x).getD j [] = if q = j then (vs.getD q []).set o x else vs.getD j [] := fun j hj => by
    unfold vset
    rw [getD_set]
    by_cases e : q = j
    · rw [if_pos ⟨e, by omega⟩, if_pos e]
    · rw [if_neg (fun c => e c.1), if_neg e]
  refine ⟨fun j hj => ha.cell (h.row j hj) hne, ⟨cur, (ha.block gv (lt_of_some ht) hne).trans ht⟩, fun j hj => ?_, hr, by unfold vset; simpa using hv, fun j hj => ?_, h.nodup⟩
  · rw [hget j hj]
    by_cases e : q = j
    · subst e
      rw [if_pos rfl]
      exact (h.each q hq).set o x
    · rw [if_neg e]
      refine (ha.block _ (h.each j hj).lt ?_).trans (h.each j hj)
      intro c
      have c' : rows.getD j 0 = rows.getD q 0 := c
      rw [List.getD_eq_getElem?_getD, List.getD_eq_getElem?_getD, List.getElem?_eq_getElem (by omega), List.getElem?_eq_getElem (by omega)] at c'
      exact e ((List.getElem_inj h.nodup).1 c').symm
  · rw [hget j hj]
    split
    · rw [List.length_set]; exact h.elen q hq
    · exact h.elen j hj

set_option maxRecDepth 100000 in
set_option maxHeartbeats 1000000 in
theorem clock_any (b n : Nat) (W B L : Int) (p gv : Nat) (rows : List Nat) (vs : List (List Int)) (w : World) (hb : NB w b n W B L p gv) (hv : NVw w gv n rows vs) (hp : p < n) :
    Calls Tryz.prog 102 #[.pointer (some ⟨b, 0, none⟩)] w fun e w' => e = .returned (.slice (some ⟨rows.getD p 0, 0, none⟩) n n) ∧ ∃ m, w' = w.drewN m := by
  have hr := hv.row p hp
  obtain ⟨c0, c1, c2, c3, c4, c5, _⟩ := hb
  have hpi : (p : Int) < (n : Int) := by omega
  clear hv
  go_enter Tryz.func102, Tryz.ntmps102
  go_wp2_with fail
  go_quiet (fail)
  go_wp2_with fail
  go_ret
  exact ⟨rfl, _, rfl⟩

set_option maxRecDepth 100000 in
set_option maxHeartbeats 2000000 in
theorem learn_any (b n : Nat) (W B L : Int) (p gv : Nat) (rows : List Nat) (vs : List (List Int)) (q o : Nat) (x : Int) (w : World) (hb : NB w b n W B L p gv) (hv : NVw w gv n rows vs) (hq : q < n) (ho : o < n) :
    Calls Tryz.prog 197 #[.pointer (some ⟨b, 0, none⟩), .int .i64 (q : Int), .int .i64 (o : Int), .int .i64 x] w
      fun e w' => e = .returned (.tuple #[]) ∧ NVw w' gv n rows (vset vs q o (imax (vw vs q o) x)) ∧ Alike w w' (fun k => k = rows.getD q 0) := by
  have hr := hv.row q hq
  have hc := hv.cell hq ho
  have hf := (hv.each q hq).free o
  have HV : Hid _ := hv.set (o := o) hq (imax (vw vs q o) x)
  obtain ⟨c0, c1, c2, c3, c4, c5, _⟩ := hb
  have hqi : (q : Int) < (n : Int) := by omega
  have hoi : (o : Int) < (n : Int) := by omega
  generalize vw vs q o = y at *
  generalize rows.getD q 0 = g at *
  clear hv
  go_enter Tryz.func197, Tryz.ntmps197
  go_wp2_with fail
  go_region
  generalize hm : (if y < x then x else y) = m
  have hm' : imax y x = m := hm
  rw [hm'] at HV
  clear hm
  go_wp2_with fail
  refine bodyPost_end (v := .tuple #[]) (by simp [results, Tryz.results197, go_sem]) rfl ⟨rfl, ?_, ?_⟩
  · rw [hm']
    exact HV.out.alike (E := fun _ => False) (Alike.of_below (Below.refl _ _).drew _) (fun h => h) (fun _ _ h => h)
  · exact (Alike.setCell _ _ _).trans (E' := fun _ => False) (Alike.of_below (Below.refl _ _).drew _) (fun _ _ h => h.elim)
set_option maxRecDepth 100000 in
set_option maxHeartbeats 2000000 in
theorem low_any (b n : Nat) (W B L : Int) (p gv : Nat) (rows : List Nat) (vs : List (List Int)) (o : Nat) (w : World) (hb : NB w b n W B L p gv) (hv : NVw w gv n rows vs) (ho : o < n) (hn : n ≤ 8) :
    Calls Tryz.prog 188 #[.pointer (some ⟨b, 0, none⟩), .int .i64 (o : Int)] w fun e w' => e = .returned (.int .i64 (lowTo vs L o n)) ∧ w' = w := by
  have HV : Hid _ := hv
  obtain ⟨c0, c1, c2, c3, c4, c5, _⟩ := hb
  have hoi : (o : Int) < (n : Int) := by omega
  clear hv
  go_enter Tryz.func188, Tryz.ntmps188
  go_wp2_with fail
  go_loop [5, 18] (fun c d => ∃ k : Nat, k ≤ n ∧ d = .int .i64 k ∧ c = .int .i64 (lowTo vs L o k)) (fun _ d => n - (intOf d).toNat)
  case atStart => exact ⟨0, Nat.zero_le _, rfl, rfl⟩
  case round =>
    obtain ⟨k, hkn, rfl, rfl⟩ := hrel
    by_cases hlt : k < n
    · have hr := HV.out.row k hlt
      have hc := HV.out.cell hlt ho
      have hki : (k : Int) < (n : Int) := by omega
      have HL : Hid (lowTo vs L o (k + 1) = if vw vs k o < lowTo vs L o k then vw vs k o else lowTo vs L o k) := rfl
      generalize lowTo vs L o k = x at *
      generalize vw vs k o = y at *
      generalize rows.getD k 0 = g at *
      go_wp2_with fail
      go_round
      case rel => exact ⟨k + 1, by omega, by go_num, by rw [HL.out]⟩
      case measure => simp [intOf]; omega
    · have hkn' : k = n := by omega
      subst hkn'
      go_wp2_with fail
      go_ret
      exact ⟨rfl, rfl⟩

set_option maxRecDepth 100000 in
set_option maxHeartbeats 2000000 in
theorem learnVector_any (b n : Nat) (W B L : Int) (p gv : Nat) (rows : List Nat) (vs : List (List Int)) (q : Nat) (ad : Option Addr) (cap : Nat) (v : List Int) (w : World) (hb : NB w b n W B L p gv) (hv : NVw w gv n rows vs) (hq : q < n) (hi : Ints w ad n v) (hn : n ≤ 8) (hne : ∀ c off, ad = some ⟨c, off, none⟩ → c ≠ rows.getD q 0) :
    Calls Tryz.prog 156 #[.pointer (some ⟨b, 0, none⟩), .int .i64 (q : Int), .slice ad n cap] w
      fun e w' => e = .returned (.tuple #[]) ∧ NVw w' gv n rows (vlearn vs q v n) ∧ Alike w w' (fun k => k = rows.getD q 0) := by
  have HV : Hid _ := hv
  have HB : Hid _ := hb
  have HI : Hid _ := hi
  have HNb : Hid (b ≠ rows.getD q 0) := by
    obtain ⟨cur, ht⟩ := hb.ty
    exact ty_ne ht (hv.each q hq) (by decide)
  clear hv hb hi
  go_enter Tryz.func156, Tryz.ntmps156
  go_wp2_with fail
  go_loopw [10] (fun c wr => ∃ k : Nat, k ≤ n ∧ c = .int .i64 k ∧ NVw wr gv n rows (vlearn vs q v k) ∧ Alike w wr (fun k => k = rows.getD q 0)) (fun c _ => n - (intOf c).toNat)
  case atStart => exact ⟨0, Nat.zero_le _, rfl, HV.out, Alike.refl _ _⟩
  case round =>
    obtain ⟨k, hkn, rfl, hvr, har⟩ := hrel
    have HVr : Hid _ := hvr
    have HAr : Hid _ := har
    clear hvr har
    by_cases hlt : k < n
    · obtain ⟨c, off, rfl, _, hc0⟩ := HI.out.cell k hlt
      have hc : wr.cell? ⟨c, off + k, none⟩ = some (.int .i64 (v.getD k 0)) := HAr.out.cell hc0 (fun h => hne c off rfl h)
      clear hc0
      have hki : (k : Int) < (n : Int) := by omega
      generalize hx : v.getD k 0 = x at *
      go_wp2_with fail
      refine (learn_any b n W B L p gv rows (vlearn vs q v k) q k x wr (HB.out.alike HAr.out HNb.out) HVr.out hq hlt).mono ?_
      rintro e w1 ⟨rfl, hv1, ha1⟩
      have HV1 : Hid _ := hv1
      have HA1 : Hid _ := ha1
      clear hv1 ha1 hc
      go_wp2_with fail
      go_roundw
      case rel => exact ⟨k + 1, by omega, by go_num, by unfold vlearn; rw [hx]; exact HV1.out, HAr.out.trans HA1.out (fun _ _ h => h)⟩
      case measure => simp [intOf]; omega
    · have hkn' : k = n := by omega
      subst hkn'
      go_wp2_with fail
      refine bodyPost_end (v := .tuple #[]) (by simp [results, Tryz.results156, go_sem]) rfl ⟨rfl, HVr.out, HAr.out⟩

set_option maxRecDepth 100000 in
set_option maxHeartbeats 2000000 in
theorem learnLow_any (b n : Nat) (W B L : Int) (p gv : Nat) (rows : List Nat) (vs : List (List Int)) (o : Nat) (x : Int) (w : World) (hb : NB w b n W B L p gv) (hv : NVw w gv n rows vs) (ho : o < n) (hn : n ≤ 8) :
    Calls Tryz.prog 195 #[.pointer (some ⟨b, 0, none⟩), .int .i64 (o : Int), .int .i64 x] w
      fun e w' => e = .returned (.tuple #[]) ∧ NVw w' gv n rows (vlow vs p o x n) ∧ Alike w w' (fun k => ∃ q, q < n ∧ q ≠ p ∧ k = rows.getD q 0) := by
  have HV : Hid _ := hv
  have HB : Hid _ := hb
  have HNb : Hid (∀ q, q < n → b ≠ rows.getD q 0) := fun q hq => by
    obtain ⟨cur, ht⟩ := hb.ty
    exact ty_ne ht (hv.each q hq) (by decide)
  obtain ⟨c0, c1, c2, c3, c4, c5, _⟩ := hb
  clear hv
  go_enter Tryz.func195, Tryz.ntmps195
  go_wp2_with fail
  go_loopw [12] (fun c wr => ∃ k : Nat, k ≤ n ∧ c = .int .i64 k ∧ NVw wr gv n rows (vlow vs p o x k) ∧ Alike w wr (fun k => ∃ q, q < n ∧ q ≠ p ∧ k = rows.getD q 0)) (fun c _ => n - (intOf c).toNat)
  case atStart => exact ⟨0, Nat.zero_le _, rfl, HV.out, Alike.refl _ _⟩
  case round =>
    obtain ⟨k, hkn, rfl, hvr, har⟩ := hrel
    have HVr : Hid _ := hvr
    have HAr : Hid _ := har
    clear hvr har
    have HBr : Hid (NB wr b n W B L p gv) := HB.out.alike HAr.out (fun ⟨q, hq, _, he⟩ => HNb.out q hq he)
    have d4 := HBr.out.c4
    by_cases hlt : k < n
    · have hki : (k : Int) < (n : Int) := by omega
      by_cases hkp : k = p
      · subst hkp
        have hne : ((k : Int) != k) = false := by simp
        go_wp2_with fail
        go_roundw
        case rel => exact ⟨k + 1, by omega, by go_num, by unfold vlow; rw [if_pos rfl]; exact HVr.out, HAr.out⟩
        case measure => simp [intOf]; omega
      · have hne : ((k : Int) != p) = true := by simp; omega
        go_wp2_with fail
        refine (learn_any b n W B L p gv rows (vlow vs p o x k) k o x wr HBr.out HVr.out hlt ho).mono ?_
        rintro e w1 ⟨rfl, hv1, ha1⟩
        have HV1 : Hid _ := hv1
        have HA1 : Hid _ := ha1
        clear hv1 ha1
        go_wp2_with fail
        go_roundw
        case rel => exact ⟨k + 1, by omega, by go_num, by unfold vlow; rw [if_neg hkp]; exact HV1.out, HAr.out.trans HA1.out (fun j _ h => ⟨k, hlt, hkp, h⟩)⟩
        case measure => simp [intOf]; omega
    · have hkn' : k = n := by omega
      subst hkn'
      go_wp2_with fail
      refine bodyPost_end (v := .tuple #[]) (by simp [results, Tryz.results195, go_sem]) rfl ⟨rfl, HVr.out, HAr.out⟩
end Go.Proofs.YtabecbjfamphbaaGreatDoor

/- A frame's seven cells. -/
namespace Go.Proofs.YtabecbjfamphbaaGreatDoor
open Go.RowKit Go.Stop Go.Extern

/-- A frame's seven cells. -/
structure Seven (g : Nat) (x : World) (v0 v1 v2 v3 v4 v5 v6 : Value) : Prop where
  c0 : x.cell? ⟨g, 0, none⟩ = some v0
  c1 : x.cell? ⟨g, 1, none⟩ = some v1
  c2 : x.cell? ⟨g, 2, none⟩ = some v2
  c3 : x.cell? ⟨g, 3, none⟩ = some v3
  c4 : x.cell? ⟨g, 4, none⟩ = some v4
  c5 : x.cell? ⟨g, 5, none⟩ = some v5
  c6 : x.cell? ⟨g, 6, none⟩ = some v6
  z : g < x.heap.size
theorem Seven.below {g : Nat} {x y : World} {v0 v1 v2 v3 v4 v5 v6 : Value} (h : Seven g x v0 v1 v2 v3 v4 v5 v6) {c : Nat} (hb : Below c x y) (hz : g < c) : Seven g y v0 v1 v2 v3 v4 v5 v6 := by
  have e : ∀ (i : Nat), y.cell? ⟨g, i, none⟩ = x.cell? ⟨g, i, none⟩ := fun i => hb.cell (p := ⟨g, i, none⟩) hz
  exact ⟨(e _).trans h.c0, (e _).trans h.c1, (e _).trans h.c2, (e _).trans h.c3, (e _).trans h.c4, (e _).trans h.c5, (e _).trans h.c6, Nat.lt_of_lt_of_le h.z hb.size⟩
theorem seven_alloc (w : World) (v0 v1 v2 v3 v4 v5 v6 : Value) (t : TypeId) : Seven w.heap.size (w.alloc (.cells #[v0, v1, v2, v3, v4, v5, v6] t)) v0 v1 v2 v3 v4 v5 v6 := by
  have e : ∀ i, (w.alloc (.cells #[v0, v1, v2, v3, v4, v5, v6] t)).cell? ⟨w.heap.size, i, none⟩ = #[v0, v1, v2, v3, v4, v5, v6][i]? := fun i => cell_of_row _ _ i _ t (0, 0) (heap_alloc_new _ _)
  exact ⟨e 0, e 1, e 2, e 3, e 4, e 5, e 6, by simp⟩

end Go.Proofs.YtabecbjfamphbaaGreatDoor

/- A store in memory: a row of frames, seven cells each. -/
namespace Go.Proofs.YtabecbjfamphbaaGreatDoor
open Go.RowKit Go.Stop Go.Extern

/-- A frame, and where its vector lies. -/
structure Fr where
  kind : Int
  frm : Int
  org : Int
  seq : Int
  low : Int
  ad : Option Addr
  cap : Nat
  vec : List Int
  body : ByteArray
def Fr.cells (n : Nat) (f : Fr) : List Value := [.int .i64 f.kind, .int .i64 f.frm, .int .i64 f.org, .int .i64 f.seq, .int .i64 f.low, .slice f.ad n f.cap, .string f.body]
def Fr.agg (n : Nat) (f : Fr) : Value := .agg #[.int .i64 f.kind, .int .i64 f.frm, .int .i64 f.org, .int .i64 f.seq, .int .i64 f.low, .slice f.ad n f.cap, .string f.body]
def frow (n : Nat) (fs : List Fr) : List Value := fs.flatMap (Fr.cells n)
theorem frow_length (n : Nat) (fs : List Fr) : (frow n fs).length = 7 * fs.length := by
  induction fs with
  | nil => rfl
  | cons f fs ih =>
    show (Fr.cells n f ++ frow n fs).length = _
    rw [List.length_append, ih]; simp [Fr.cells]; omega
theorem frow_append (n : Nat) (fs gs : List Fr) : frow n (fs ++ gs) = frow n fs ++ frow n gs := by simp [frow]
theorem frow_get (n : Nat) (fs : List Fr) (i j : Nat) (hi : i < fs.length) (hj : j < 7) : (frow n fs)[7 * i + j]? = (Fr.cells n fs[i])[j]? := by
  conv => lhs; rw [← List.take_append_drop i fs, List.drop_eq_getElem_cons hi, frow_append]
  rw [List.getElem?_append_right (by rw [frow_length, List.length_take]; omega), frow_length, List.length_take]
  show (Fr.cells n fs[i] ++ frow n (fs.drop (i + 1)))[_]? = _
  rw [List.getElem?_append_left (by simp [Fr.cells]; omega)]
  congr 1
  omega
/-- The store's slice in memory: its row is a block of its own. -/
structure Frs (w : World) (n : Nat) (ad : Option Addr) (len cap : Nat) (fs : List Fr) : Prop where
  flen : fs.length = len
  own : w.ownsRow 0 45 7 (.slice ad len cap) len (frow n fs)
theorem Frs.block {w : World} {n : Nat} {ad : Option Addr} {len cap : Nat} {fs : List Fr} (h : Frs w n ad len cap fs) (h0 : 0 < len) : ∃ g cur, ad = some ⟨g, 0, none⟩ ∧ w.heap[g]? = some (.cells cur 45 (0, 0)) := by
  rcases h.own.2 with ⟨_, he⟩ | ⟨g, cap', cur, he, _, hg, _⟩
  · omega
  · cases he
    exact ⟨g, cur, rfl, hg⟩
theorem Frs.cell {w : World} {n : Nat} {g len cap : Nat} {fs : List Fr} (h : Frs w n (some ⟨g, 0, none⟩) len cap fs) {i : Nat} (hi : i < len) (j : Nat) (hj : j < 7) : w.cell? ⟨g, 7 * i + j, none⟩ = (Fr.cells n (fs[i]'(by rw [h.flen]; exact hi)))[j]? := by
  have hl := h.flen
  rw [World.ownsRow.cellAt h.own (7 * i + j) (by omega), frow_get n fs i j (by omega) hj]
/-- One frame's seven cells. -/
theorem Frs.seven {w : World} {n : Nat} {g len cap : Nat} {fs : List Fr} (h : Frs w n (some ⟨g, 0, none⟩) len cap fs) {i : Nat} (hi : i < len) {f : Fr} (hf : fs[i]? = some f) :
    w.cell? ⟨g, i * 7, none⟩ = some (.int .i64 f.kind) ∧ w.cell? ⟨g, i * 7 + 1, none⟩ = some (.int .i64 f.frm) ∧ w.cell? ⟨g, i * 7 + 2, none⟩ = some (.int .i64 f.org) ∧ w.cell? ⟨g, i * 7 + 3, none⟩ = some (.int .i64 f.seq) ∧ w.cell? ⟨g, i * 7 + 4, none⟩ = some (.int .i64 f.low) ∧ w.cell? ⟨g, i * 7 + 5, none⟩ = some (.slice f.ad n f.cap) ∧ w.cell? ⟨g, i * 7 + 6, none⟩ = some (.string f.body) := by
  have hl := h.flen
  have hfi : fs[i]'(by omega) = f := by rw [List.getElem?_eq_getElem (by omega)] at hf; exact Option.some.inj hf
  have e : ∀ j, j < 7 → w.cell? ⟨g, i * 7 + j, none⟩ = (Fr.cells n f)[j]? := fun j hj => by
    have := h.cell hi j hj
    rw [hfi] at this
    rw [Nat.mul_comm i 7]; exact this
  exact ⟨e 0 (by omega), e 1 (by omega), e 2 (by omega), e 3 (by omega), e 4 (by omega), e 5 (by omega), e 6 (by omega)⟩

set_option maxRecDepth 100000 in
set_option maxHeartbeats 1000000 in
/-- What the closure of forget asks: is the word's number no greater than the Low of its origin? -/
theorem forgetFn_any (b n : Nat) (W B L : Int) (p gv : Nat) (rows : List Nat) (vs : List (List Int)) (pb : Nat) (f : Fr) (o : Nat) (ho : f.org = o) (hon : o < n) (hn : n ≤ 8) (w : World) (hb : NB w b n W B L p gv) (hv : NVw w gv n rows vs) (hp : w.cell? ⟨pb, 0, none⟩ = some (.pointer (some ⟨b, 0, none⟩))) :
    Calls Tryz.prog 193 #[Fr.agg n f, .pointer (some ⟨pb, 0, none⟩)] w fun e w' => e = .returned (.bool (decide (f.seq ≤ lowTo vs L o n))) ∧ Below w.heap.size w w' := by
  have hbox := seven_alloc w (.int .i64 f.kind) (.int .i64 f.frm) (.int .i64 f.org) (.int .i64 f.seq) (.int .i64 f.low) (.slice f.ad n f.cap) (.string f.body) 45
  have hal := below1 w (.cells #[.int .i64 f.kind, .int .i64 f.frm, .int .i64 f.org, .int .i64 f.seq, .int .i64 f.low, .slice f.ad n f.cap, .string f.body] 45)
  have HLo : Hid (∀ m, Calls Tryz.prog 188 #[.pointer (some ⟨b, 0, none⟩), .int .i64 (o : Int)] ((w.alloc (.cells #[.int .i64 f.kind, .int .i64 f.frm, .int .i64 (o : Int), .int .i64 f.seq, .int .i64 f.low, .slice f.ad n f.cap, .string f.body] 45)).drewN m) fun e w' => e = .returned (.int .i64 (lowTo vs L o n)) ∧ w' = (w.alloc (.cells #[.int .i64 f.kind, .int .i64 f.frm, .int .i64 (o : Int), .int .i64 f.seq, .int .i64 f.low, .slice f.ad n f.cap, .string f.body] 45)).drewN m) := fun m => by
    have ha : Alike w ((w.alloc (.cells #[.int .i64 f.kind, .int .i64 f.frm, .int .i64 (o : Int), .int .i64 f.seq, .int .i64 f.low, .slice f.ad n f.cap, .string f.body] 45)).drewN m) (fun _ => False) := Alike.of_below (below_drewN (below1 _ _) m) _
    exact low_any b n W B L p gv rows vs o _ (hb.alike ha (fun h => h)) (hv.alike ha (fun h => h) (fun _ _ h => h)) hon hn
  unfold Fr.agg
  rw [ho] at hal ⊢
  have hpb : pb < w.heap.size := lt_of_cell hp
  have hp' : (w.alloc (.cells #[.int .i64 f.kind, .int .i64 f.frm, .int .i64 (o : Int), .int .i64 f.seq, .int .i64 f.low, .slice f.ad n f.cap, .string f.body] 45)).cell? ⟨pb, 0, none⟩ = some (.pointer (some ⟨b, 0, none⟩)) := (hal.cell (p := ⟨pb, 0, none⟩) hpb).trans hp
  clear hb hv hbox
  have HAL : Hid _ := hal
  clear hal
  generalize lowTo vs L o n = lo at *
  go_enter Tryz.func193, Tryz.ntmps193
  go_wp2_with fail
  go_quiet (first | (go_at_call 188; exact Calls.quiet_of_same (HLo.out _)))
  go_wp2_with fail
  go_ret
  exact ⟨rfl, below_drewN HAL.out _⟩
end Go.Proofs.YtabecbjfamphbaaGreatDoor

/- slices.IndexFunc and slices.DeleteFunc over the store. -/
namespace Go.Proofs.YtabecbjfamphbaaGreatDoor
open Go.RowKit Go.Stop Go.Extern

theorem Frs.low {w w' : World} {n : Nat} {ad : Option Addr} {len cap : Nat} {fs : List Fr} (h : Frs w n ad len cap fs) (hb : Below w.heap.size w w') : Frs w' n ad len cap fs := by
  refine ⟨h.flen, h.own.1, ?_⟩
  rcases h.own.2 with h | ⟨g, cap', cur, he, hg, hh, hr⟩
  · exact Or.inl h
  · exact Or.inr ⟨g, cap', cur, he, hg, (hb.block g (lt_of_some hh)).trans hh, hr⟩
def idxI : Option Nat → Int
  | some i => (i : Int)
  | none => -1
theorem findIdx_some {fs : List Fr} {D : Fr → Bool} {k : Nat} {f : Fr} (h : ∀ j f, j < k → fs[j]? = some f → D f = false) (hf : fs[k]? = some f) (hD : D f = true) : fs.findIdx? D = some k := by
  obtain ⟨hk, he⟩ := List.getElem?_eq_some_iff.1 hf
  rw [List.findIdx?_eq_some_iff_getElem]
  refine ⟨hk, by rw [he]; exact hD, fun j hj => ?_⟩
  simpa using h j _ hj (List.getElem?_eq_getElem (by omega))
theorem findIdx_none {fs : List Fr} {D : Fr → Bool} (h : ∀ (j : Nat) f, fs[j]? = some f → D f = false) : fs.findIdx? D = none := by
  rw [List.findIdx?_eq_none_iff]
  intro f hf
  obtain ⟨j, hj⟩ := List.mem_iff_getElem?.1 hf
  exact h j f hj

set_option maxRecDepth 100000 in
set_option maxHeartbeats 2000000 in
theorem indexFunc_any (n : Nat) (ad : Option Addr) (len cap : Nat) (fs : List Fr) (D : Fr → Bool) (pb : Nat) (w : World) (hr : Frs w n ad len cap fs) (hl : len ≤ 1000)
    (hD : ∀ x f, Below w.heap.size w x → f ∈ fs → Calls Tryz.prog 193 #[Fr.agg n f, .pointer (some ⟨pb, 0, none⟩)] x fun e w' => e = .returned (.bool (D f)) ∧ Below x.heap.size x w') :
    Calls Tryz.prog 223 #[.slice ad len cap, .func (.func 193) #[] #[.pointer (some ⟨pb, 0, none⟩)]] w
      fun e w' => e = .returned (.int .i64 (idxI (fs.findIdx? D))) ∧ Below w.heap.size w w' := by
  have HR : Hid _ := hr
  have HD : Hid _ := hD
  clear hr hD
  go_enter Tryz.func223, Tryz.ntmps223
  go_wp2_with fail
  go_loopw [8] (fun c wr => ∃ k : Nat, k ≤ len ∧ c = .int .i64 k ∧ (∀ j f, j < k → fs[j]? = some f → D f = false) ∧ Below w.heap.size w wr) (fun c _ => len - (intOf c).toNat)
  case atStart => exact ⟨0, Nat.zero_le _, rfl, fun j f h => absurd h (Nat.not_lt_zero _), Below.refl _ _⟩
  case round =>
    obtain ⟨k, hkn, rfl, hno, hbel⟩ := hrel
    have HNo : Hid _ := hno
    have HBel : Hid _ := hbel
    clear hno hbel
    by_cases hlt : k < len
    · obtain ⟨g, cur, rfl, _⟩ := HR.out.block (by omega)
      have hfl := HR.out.flen
      obtain ⟨f, hf⟩ : ∃ f, fs[k]? = some f := ⟨fs[k]'(by omega), List.getElem?_eq_getElem _⟩
      obtain ⟨s0, s1, s2, s3, s4, s5, s6⟩ := (HR.out.low HBel.out).seven hlt hf
      have hki : (k : Int) < (len : Int) := by omega
      go_wp2_with fail
      refine (HD.out wr f HBel.out (List.mem_of_getElem? hf)).mono ?_
      rintro e w1 ⟨rfl, hb1⟩
      have HB1 : Hid _ := bthen HBel.out hb1
      clear hb1 s0 s1 s2 s3 s4 s5 s6
      cases hDf : D f with
      | true =>
        go_wp2_with fail
        go_ret
        refine ⟨?_, HB1.out⟩
        rw [findIdx_some HNo.out hf hDf]
        rfl
      | false =>
        go_wp2_with fail
        go_roundw
        case rel => exact ⟨k + 1, by omega, by go_num, fun j f' hj hf' => by
          rcases Nat.lt_or_ge j k with h | h
          · exact HNo.out j f' h hf'
          · obtain rfl : j = k := by omega
            rw [hf] at hf'
            cases hf'
            exact hDf, HB1.out⟩
        case measure => simp [intOf]; omega
    · have hkn' : k = len := by omega
      subst hkn'
      go_wp2_with fail
      go_ret
      refine ⟨?_, HBel.out⟩
      rw [findIdx_none (fs := fs) (D := D) (fun j f hf => HNo.out j f (by have := HR.out.flen; have := (List.getElem?_eq_some_iff.1 hf).1; omega) hf)]
      rfl
end Go.Proofs.YtabecbjfamphbaaGreatDoor
