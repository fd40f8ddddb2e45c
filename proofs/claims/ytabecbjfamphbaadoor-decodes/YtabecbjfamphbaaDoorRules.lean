/-
  The walks of the program's rules on frames: checkKind, checkFrom, checkVector, checkState, checkData, checkFrame.
-/
import Derived.Test.YtabecbjfamphbaaDoorChk2
namespace Go.Proofs.YtabecbjfamphbaaDoor
open Go.RowKit Go.Stop Go.Extern

theorem below1 (w : World) (o : Obj) : Below w.heap.size w (w.alloc o) := (Below.refl _ _).alloc (Nat.le_refl _) _
theorem below2 (w : World) (o p : Obj) : Below w.heap.size w ((w.alloc o).alloc p) := (below1 w o).alloc (by simp) _

/-- A list of numbers behind a slice's address. -/
structure Ints (w : World) (ad : Option Addr) (n : Nat) (vs : List Int) : Prop where
  len : vs.length = n
  cell : ∀ i : Nat, i < n → ∃ b off, ad = some ⟨b, off, none⟩ ∧ b < w.heap.size ∧ w.cell? ⟨b, off + i, none⟩ = some (.int .i64 (vs.getD i 0))
theorem Ints.below {w w' : World} {ad : Option Addr} {n : Nat} {vs : List Int} (h : Ints w ad n vs) (hb : Below w.heap.size w w') : Ints w' ad n vs :=
  ⟨h.len, fun i hi => by
    obtain ⟨b, off, e, hlt, hc⟩ := h.cell i hi
    exact ⟨b, off, e, Nat.lt_of_lt_of_le hlt hb.size, (hb.cell (p := ⟨b, off + i, none⟩) hlt).trans hc⟩⟩
theorem Ints.alloc {w : World} {ad : Option Addr} {n : Nat} {vs : List Int} (h : Ints w ad n vs) (o : Obj) : Ints (w.alloc o) ad n vs := h.below (below1 w o)
theorem Ints.drew {w : World} {ad : Option Addr} {n : Nat} {vs : List Int} (h : Ints w ad n vs) : Ints w.drew ad n vs := h.below (Below.refl _ _).drew

/-- What a rule answers: nothing; 'no frame'; 'no frame' at a place. -/
structure IsF (a1 : Addr) (v : Value) (r : Option (Option Int)) : Prop where
  how : (r = none ∧ v = .nilIface) ∨ (r = some none ∧ ∃ s, v = .iface 117 (.agg #[.string s, .iface 137 (.pointer (some a1))]))
    ∨ (∃ p s, r = some (some p) ∧ v = .iface 91 (.agg #[.int .i64 p, .iface 117 (.agg #[.string s, .iface 137 (.pointer (some a1))])]))
theorem IsF.nil (a1 : Addr) : IsF a1 .nilIface none := ⟨Or.inl ⟨rfl, rfl⟩⟩
theorem IsF.why (a1 : Addr) (s : ByteArray) : IsF a1 (.iface 117 (.agg #[.string s, .iface 137 (.pointer (some a1))])) (some none) := ⟨Or.inr (Or.inl ⟨rfl, s, rfl⟩)⟩
theorem IsF.at (a1 : Addr) (p : Int) (s : ByteArray) : IsF a1 (.iface 91 (.agg #[.int .i64 p, .iface 117 (.agg #[.string s, .iface 137 (.pointer (some a1))])])) (some (some p)) := ⟨Or.inr (Or.inr ⟨p, s, rfl, rfl⟩)⟩
theorem IsF.nil_iff {a1 : Addr} {v : Value} {r : Option (Option Int)} (h : IsF a1 v r) : (r = none → v = .nilIface) ∧ (∀ x, r = some x → ∃ t y, v = .iface t y) := by
  rcases h.how with ⟨rfl, rfl⟩ | ⟨rfl, s, rfl⟩ | ⟨p, s, rfl, rfl⟩
  · exact ⟨fun _ => rfl, fun x hx => (by cases hx)⟩
  · exact ⟨fun hx => (by cases hx), fun x hx => ⟨_, _, rfl⟩⟩
  · exact ⟨fun hx => (by cases hx), fun x hx => ⟨_, _, rfl⟩⟩
theorem IsF.err {a0 a1 : Addr} {v : Value} {r : Option (Option Int)} (h : IsF a1 v r) : IsErr a0 a1 v (if r = none then 0 else 5) := by
  rcases h.how with ⟨rfl, rfl⟩ | ⟨rfl, s, rfl⟩ | ⟨p, s, rfl, rfl⟩
  · exact ⟨Or.inl ⟨rfl, rfl⟩⟩
  · exact ⟨Or.inr (Or.inr (Or.inl ⟨s, rfl, rfl⟩))⟩
  · exact ⟨Or.inr (Or.inr (Or.inr ⟨p, s, rfl, rfl⟩))⟩

/-! The rules as functions. -/
def rKind (K : Int) : Option (Option Int) := if K = 1 ∨ K = 2 then none else some (some 2)
def rFrom (N F : Int) : Option (Option Int) := if 0 ≤ F ∧ F < N then none else some (some 4)
def vbad (L K O S : Int) (i : Nat) (v : Int) : Bool := decide (v < 0 ∨ L < v ∨ (K = 1 ∧ (i : Int) = O ∧ v ≠ S - 1))
def vfirst (L K O S : Int) (vs : List Int) : Option Nat := (List.range vs.length).find? fun i => vbad L K O S i (vs.getD i 0)
def vAt (K : Int) : Int := if K = 1 then 10 else 5
def rVec (N L K O S : Int) (vs : List Int) : Option (Option Int) := if (vs.length : Int) = N then (vfirst L K O S vs).map fun i => some (vAt K + 2 * (i : Int)) else some none
def rState (N L K O S Lw : Int) (vs : List Int) (body : Bool) : Option (Option Int) := if O = 0 ∧ S = 0 ∧ Lw = 0 ∧ body = true then rVec N L K O S vs else some none
def rData (N W B L K O S Lw : Int) (vs : List Int) (n : Nat) : Option (Option Int) :=
  if ¬ (0 ≤ O ∧ O < N) then some (some 5) else if S < 1 ∨ L < S then some (some 6) else if Lw < 0 ∨ S ≤ Lw ∨ Lw < S - W then some (some 8) else
  match rVec N L K O S vs with
  | some x => some x
  | none => if B < (n : Int) then some (some (10 + 2 * N)) else none

theorem find_none {p : Nat → Bool} {n : Nat} (h : ∀ i, i < n → p i = false) : (List.range n).find? p = none := by
  rw [List.find?_eq_none]; intro i hi; simp [h i (by simpa using hi)]
theorem find_some {p : Nat → Bool} {n k : Nat} (hk : k < n) (hp : p k = true) (h : ∀ i, i < k → p i = false) : (List.range n).find? p = some k := by
  rw [List.find?_eq_some_iff_append]
  refine ⟨hp, List.range k, (List.range (n - k - 1)).map (k + 1 + ·), ?_, fun i hi => by simp [h i (by simpa using hi)]⟩
  have e : n = k + (1 + (n - k - 1)) := by omega
  conv => lhs; rw [e]
  rw [List.range_add, List.range_add]
  simp [Function.comp_def, Nat.add_assoc]

set_option maxHeartbeats 400000 in
theorem has_any (N W B L p : Int) (w : World) :
    Calls Tryd.prog 73 #[.agg #[.int .i64 N, .int .i64 W, .int .i64 B, .int .i64 L], .int .i64 p] w fun e w' => e = .returned (.bool (decide (0 ≤ p ∧ p < N))) ∧ Below w.heap.size w w' := by
  by_cases h1 : 0 ≤ p
  · by_cases h2 : p < N
    · rw [decide_eq_true (by exact ⟨h1, h2⟩)]
      go_enter Tryd.func73, Tryd.ntmps73
      go_wp2
      go_ret
      exact ⟨rfl, below1 _ _⟩
    · rw [decide_eq_false (by omega)]
      go_enter Tryd.func73, Tryd.ntmps73
      go_wp2
      go_ret
      exact ⟨rfl, below1 _ _⟩
  · rw [decide_eq_false (by omega)]
    go_enter Tryd.func73, Tryd.ntmps73
    go_wp2
    go_ret
    exact ⟨rfl, below1 _ _⟩

set_option maxHeartbeats 400000 in
theorem vectorAt_any (K : Int) (w : World) :
    Calls Tryd.prog 83 #[.int .i64 K] w fun e w' => e = .returned (.int .i64 (vAt K)) ∧ w' = w := by
  by_cases h : K = 1
  · subst h
    go_enter Tryd.func83, Tryd.ntmps83
    go_wp2
    go_ret
    exact ⟨rfl, rfl⟩
  · have hb : (K == 1) = false := beq_eq_false_iff_ne.2 h
    have hv : vAt K = 5 := if_neg h
    rw [hv]
    clear h hv
    go_enter Tryd.func83, Tryd.ntmps83
    go_wp2
    go_ret
    exact ⟨rfl, rfl⟩
set_option maxHeartbeats 400000 in
theorem sizeAt_any (N W B L : Int) (h1 : 2 ≤ N) (h2 : N ≤ 8) (w : World) :
    Calls Tryd.prog 76 #[.agg #[.int .i64 N, .int .i64 W, .int .i64 B, .int .i64 L]] w fun e w' => e = .returned (.int .i64 (10 + 2 * N)) ∧ Below w.heap.size w w' := by
  go_enter Tryd.func76, Tryd.ntmps76
  go_wp2
  go_ret
  exact ⟨rfl, below1 _ _⟩

set_option maxHeartbeats 400000 in
theorem checkKind_any (a0 a1 : Addr) (K F O S Lw : Int) (ad : Option Addr) (len cap : Nat) (body : ByteArray) (w : World) (hw : Sent w a0 a1) :
    Calls Tryd.prog 57 #[.agg #[.int .i64 K, .int .i64 F, .int .i64 O, .int .i64 S, .int .i64 Lw, .slice ad len cap, .string body]] w fun e w' => (∃ v, e = .returned v ∧ IsF a1 v (rKind K)) ∧ Below w.heap.size w w' := by
  have HW : Hid (Sent w a0 a1) := hw
  clear hw
  by_cases h1 : K = 1
  · rw [show rKind K = none from if_pos (Or.inl h1)]
    subst h1
    go_enter Tryd.func57, Tryd.ntmps57
    go_wp2
    go_ret
    exact ⟨⟨_, rfl, IsF.nil a1⟩, below1 _ _⟩
  · by_cases h2 : K = 2
    · rw [show rKind K = none from if_pos (Or.inr h2)]
      subst h2
      clear h1
      go_enter Tryd.func57, Tryd.ntmps57
      go_wp2
      go_ret
      exact ⟨⟨_, rfl, IsF.nil a1⟩, below1 _ _⟩
    · rw [show rKind K = some (some 2) from if_neg (by omega)]
      have hb1 : (K != 1) = true := bne_iff_ne.2 h1
      have hb2 : (K != 2) = true := bne_iff_ne.2 h2
      clear h1 h2
      go_enter Tryd.func57, Tryd.ntmps57
      go_wp2_with (go_at_call 64; refine (refuseAt_any a0 a1 _ _ _ (HW.out.alloc _)).mono ?_; rintro e w' ⟨rfl, rfl⟩)
      go_ret
      exact ⟨⟨_, rfl, IsF.at a1 _ _⟩, below1 _ _⟩

set_option maxHeartbeats 400000 in
theorem checkFrom_any (a0 a1 : Addr) (N W B L K F O S Lw : Int) (ad : Option Addr) (len cap : Nat) (body : ByteArray) (w : World) (hw : Sent w a0 a1) :
    Calls Tryd.prog 58 #[.agg #[.int .i64 N, .int .i64 W, .int .i64 B, .int .i64 L], .agg #[.int .i64 K, .int .i64 F, .int .i64 O, .int .i64 S, .int .i64 Lw, .slice ad len cap, .string body]] w fun e w' => (∃ v, e = .returned v ∧ IsF a1 v (rFrom N F)) ∧ Below w.heap.size w w' := by
  have HW : Hid (Sent w a0 a1) := hw
  clear hw
  by_cases h : 0 ≤ F ∧ F < N
  · rw [show rFrom N F = none from if_pos h]
    have hd : decide (0 ≤ F ∧ F < N) = true := decide_eq_true h
    clear h
    go_enter Tryd.func58, Tryd.ntmps58
    go_wp2_with fail
    refine (has_any N W B L F _).mono ?_
    rintro e w' ⟨rfl, hb⟩
    have HB : Hid _ := hb
    clear hb
    rw [hd]
    go_wp2
    go_ret
    exact ⟨⟨_, rfl, IsF.nil a1⟩, bthen (below2 _ _ _) HB.out⟩
  · rw [show rFrom N F = some (some 4) from if_neg h]
    have hd : decide (0 ≤ F ∧ F < N) = false := decide_eq_false h
    clear h
    go_enter Tryd.func58, Tryd.ntmps58
    go_wp2_with fail
    refine (has_any N W B L F _).mono ?_
    rintro e w' ⟨rfl, hb⟩
    have HB : Hid _ := hb
    clear hb
    rw [hd]
    go_wp2_with (go_at_call 64; refine (refuseAt_any a0 a1 _ _ _ (((HW.out.alloc _).alloc _).below HB.out)).mono ?_; rintro e w' ⟨rfl, rfl⟩)
    go_ret
    exact ⟨⟨_, rfl, IsF.at a1 _ _⟩, bthen (below2 _ _ _) HB.out⟩
end Go.Proofs.YtabecbjfamphbaaDoor
