/-
  The law's small steps: pick, at, upTo, fit.
-/
import Derived.Test.YtabecbjfamphbaaDoorRules
namespace Go.Proofs.YtabecbjfamphbaaDoor
open Go.RowKit Go.Stop Go.Extern

/-- A number that an int holds. -/
def I64 (c : Int) : Prop := -9223372036854775808 ≤ c ∧ c ≤ 9223372036854775807
/-- Which of n things a number speaks of. -/
def pk (c n : Int) : Int := (if c < 0 then -(c + 1) else c) % n
theorem pk_bd (c n : Int) (h : 0 < n) : 0 ≤ pk c n ∧ pk c n < n := ⟨Int.emod_nonneg _ (by omega), Int.emod_lt_of_pos _ h⟩

set_option maxHeartbeats 1000000 in
theorem pick_any (c n : Int) (w : World) (hc : I64 c) (hn : 0 < n) (hn2 : n ≤ 9223372036854775807) :
    Calls Tryd.prog 30 #[.int .i64 c, .int .i64 n] w fun e w' => e = .returned (.int .i64 (pk c n)) ∧ w' = w := by
  obtain ⟨h1, h2⟩ := hc
  by_cases h0 : c < 0
  · have e1 : pk c n = -(Int.tmod (c + 1) n) := by unfold pk; rw [if_pos h0, ← Int.neg_tmod, Int.tmod_eq_emod_of_nonneg (by omega)]
    have hb := pk_bd c n hn
    rw [e1] at hb ⊢
    go_enter Tryd.func30, Tryd.ntmps30
    go_wp2_with fail
    go_ret
    exact ⟨rfl, rfl⟩
  · have e1 : pk c n = c % n := by unfold pk; rw [if_neg h0]
    have hb := pk_bd c n hn
    rw [e1] at hb ⊢
    go_enter Tryd.func30, Tryd.ntmps30
    go_wp2_with fail
    go_ret
    exact ⟨rfl, rfl⟩

set_option maxHeartbeats 1000000 in
theorem at_any (ad : Option Addr) (len cap : Nat) (vs : List Int) (i : Nat) (w : World) (hi : Ints w ad len vs) :
    Calls Tryd.prog 31 #[.slice ad len cap, .int .i64 (i : Int)] w fun e w' => e = .returned (.int .i64 (vs.getD i 0)) ∧ w' = w := by
  have hlen := hi.len
  by_cases h : i < len
  · obtain ⟨b, off, rfl, _, hc⟩ := hi.cell i h
    generalize vs.getD i 0 = y at *
    clear hi
    have hlt : (i : Int) < (len : Int) := by omega
    go_enter Tryd.func31, Tryd.ntmps31
    go_wp2_with fail
    go_ret
    exact ⟨rfl, rfl⟩
  · have e : vs.getD i 0 = 0 := by rw [List.getD_eq_getElem?_getD, List.getElem?_eq_none (by omega)]; rfl
    rw [e]
    clear hi
    have hlt : ¬ (i : Int) < (len : Int) := by omega
    go_enter Tryd.func31, Tryd.ntmps31
    go_wp2_with fail
    go_ret
    exact ⟨rfl, rfl⟩
/-- The first n bytes of a text, or all. -/
def upT (s : ByteArray) (n : Nat) : ByteArray := if n < s.size then s.extract 0 n else s
theorem upT_size (s : ByteArray) (n : Nat) : (upT s n).size ≤ n := by
  unfold upT
  split
  · rw [ByteArray.size_extract]; omega
  · omega
set_option maxHeartbeats 1000000 in
theorem upTo_any (s : ByteArray) (n : Nat) (w : World) :
    Calls Tryd.prog 32 #[.string s, .int .i64 (n : Int)] w fun e w' => e = .returned (.string (upT s n)) ∧ w' = w := by
  by_cases h : n < s.size
  · have e : upT s n = s.extract 0 n := if_pos h
    rw [e]
    have hlt : (n : Int) < (s.size : Int) := by omega
    have hle : (n : Int) ≤ (s.size : Int) := by omega
    go_enter Tryd.func32, Tryd.ntmps32
    go_wp2_with fail
    go_ret
    exact ⟨rfl, rfl⟩
  · have e : upT s n = s := if_neg h
    rw [e]
    have hlt : ¬ (n : Int) < (s.size : Int) := by omega
    go_enter Tryd.func32, Tryd.ntmps32
    go_wp2_with fail
    go_ret
    exact ⟨rfl, rfl⟩
set_option maxRecDepth 100000 in
set_option maxHeartbeats 1000000 in
theorem fit_any (N W B L : Int) (w : World) (hN : I64 N) (hW : I64 W) (hB : I64 B) (hL : I64 L) :
    Calls Tryd.prog 10 #[.agg #[.int .i64 N, .int .i64 W, .int .i64 B, .int .i64 L]] w
      fun e w' => e = .returned (.agg #[.int .i64 (2 + pk N 7), .int .i64 (1 + pk W 8), .int .i64 (pk B 41), .int .i64 (1 + pk L 65535)]) ∧ Below w.heap.size w w' := by
  have H1 : Hid (∀ w, Calls Tryd.prog 30 #[.int .i64 N, .int .i64 7] w fun e w' => e = .returned (.int .i64 (pk N 7)) ∧ w' = w) := fun w => pick_any N 7 w hN (by omega) (by omega)
  have H2 : Hid (∀ w, Calls Tryd.prog 30 #[.int .i64 W, .int .i64 8] w fun e w' => e = .returned (.int .i64 (pk W 8)) ∧ w' = w) := fun w => pick_any W 8 w hW (by omega) (by omega)
  have H3 : Hid (∀ w, Calls Tryd.prog 30 #[.int .i64 B, .int .i64 41] w fun e w' => e = .returned (.int .i64 (pk B 41)) ∧ w' = w) := fun w => pick_any B 41 w hB (by omega) (by omega)
  have H4 : Hid (∀ w, Calls Tryd.prog 30 #[.int .i64 L, .int .i64 65535] w fun e w' => e = .returned (.int .i64 (pk L 65535)) ∧ w' = w) := fun w => pick_any L 65535 w hL (by omega) (by omega)
  have b1 := pk_bd N 7 (by omega)
  have b2 := pk_bd W 8 (by omega)
  have b3 := pk_bd B 41 (by omega)
  have b4 := pk_bd L 65535 (by omega)
  generalize pk N 7 = x1 at *
  generalize pk W 8 = x2 at *
  generalize pk B 41 = x3 at *
  generalize pk L 65535 = x4 at *
  clear hN hW hB hL
  go_enter Tryd.func10, Tryd.ntmps10
  go_wp2_with fail
  refine (H1.out _).mono ?_
  rintro e w' ⟨rfl, rfl⟩
  clear H1
  go_wp2_with fail
  refine (H2.out _).mono ?_
  rintro e w' ⟨rfl, rfl⟩
  clear H2
  go_wp2_with fail
  refine (H3.out _).mono ?_
  rintro e w' ⟨rfl, rfl⟩
  clear H3
  go_wp2_with fail
  refine (H4.out _).mono ?_
  rintro e w' ⟨rfl, rfl⟩
  clear H4
  go_wp2_with fail
  refine bodyPost_ret (v := .agg #[.int .i64 (2 + x1), .int .i64 (1 + x2), .int .i64 x3, .int .i64 (1 + x4)]) (by simp [results, Tryd.results10, go_sem]) rfl ⟨rfl, below2 _ _ _⟩
end Go.Proofs.YtabecbjfamphbaaDoor
