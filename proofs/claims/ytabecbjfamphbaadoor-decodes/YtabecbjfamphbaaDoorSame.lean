/-
  The law's sameInts, of two lists that are the same.
-/
import Derived.Test.YtabecbjfamphbaaDoorRefGood2
namespace Go.Proofs.YtabecbjfamphbaaDoor
open Go.RowKit Go.Stop Go.Extern

set_option maxRecDepth 100000 in
set_option maxHeartbeats 2000000 in
theorem sameInts_true (ad ad' : Option Addr) (n cap cap' : Nat) (vs : List Int) (w : World) (ha : Ints w ad n vs) (hb : Ints w ad' n vs) (hn : n ≤ 1000) :
    Calls Tryd.prog 25 #[.slice ad n cap, .slice ad' n cap'] w fun e w' => e = .returned (.bool true) ∧ Below w.heap.size w w' := by
  have HA : Hid (Ints w ad n vs) := ha
  have HB : Hid (Ints w ad' n vs) := hb
  clear ha hb
  go_enter Tryd.func25, Tryd.ntmps25
  go_wp2_with fail
  go_loopw [5] (fun c wr => ∃ k : Nat, k ≤ n ∧ c = .int .i64 k ∧ Below w.heap.size w wr) (fun c _ => n - (intOf c).toNat)
  case atStart => exact ⟨0, Nat.zero_le _, rfl, Below.refl _ _⟩
  case round =>
    obtain ⟨k, hkn, rfl, hbel⟩ := hrel
    have HBel : Hid (Below w.heap.size w wr) := hbel
    by_cases hlt : k < n
    · obtain ⟨b, off, he, _, hc⟩ := (HA.out.below hbel).cell k hlt
      obtain ⟨b', off', he', _, hc'⟩ := (HB.out.below hbel).cell k hlt
      subst he he'
      clear hbel
      generalize vs.getD k 0 = y at *
      have hne : ((y : Int) != y) = false := by simp
      have hlti : (k : Int) < (n : Int) := by omega
      go_wp2_with fail
      go_quiet (fail)
      go_wp2_with fail
      go_roundw
      case rel => exact ⟨k + 1, by omega, by go_num, below_drewN HBel.out _⟩
      case measure => simp [intOf]; omega
    · have : k = n := by omega
      subst this
      clear hbel
      go_wp2_with fail
      go_ret
      exact ⟨rfl, HBel.out⟩
end Go.Proofs.YtabecbjfamphbaaDoor
