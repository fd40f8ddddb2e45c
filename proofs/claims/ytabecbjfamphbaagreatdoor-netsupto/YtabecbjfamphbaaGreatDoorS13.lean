/-
  Texts that the proof needs, joined: Framed.
-/
import Derived.Test.YtabecbjfamphbaaGreatDoorS11
import Derived.Deep.QuietTactic
import Derived.BigQuiet
/- The face's Encode; the reference's node and Framed. -/
namespace Go.Proofs.YtabecbjfamphbaaGreatDoor
open Go.RowKit Go.Stop Go.Extern

set_option maxHeartbeats 400000 in
theorem node_any (N W B L p : Int) (w : World) :
    Calls Tryz.prog 165 #[.agg #[.int .i64 N, .int .i64 W, .int .i64 B, .int .i64 L], .int .i64 p] w fun e w' => e = .returned (.bool (decide (0 ≤ p ∧ p < N))) ∧ Below w.heap.size w w' := by
  by_cases h1 : 0 ≤ p
  · by_cases h2 : p < N
    · rw [decide_eq_true (by exact ⟨h1, h2⟩)]
      go_enter Tryz.func165, Tryz.ntmps165
      go_wp2
      go_ret
      exact ⟨rfl, below1 _ _⟩
    · rw [decide_eq_false (by omega)]
      go_enter Tryz.func165, Tryz.ntmps165
      go_wp2
      go_ret
      exact ⟨rfl, below1 _ _⟩
  · rw [decide_eq_false (by omega)]
    go_enter Tryz.func165, Tryz.ntmps165
    go_wp2
    go_ret
    exact ⟨rfl, below1 _ _⟩

end Go.Proofs.YtabecbjfamphbaaGreatDoor
