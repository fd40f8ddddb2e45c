/-
  The law's book: the lists of numbers still read so.
-/
import Derived.Test.YtabecbjfamphbaaDoorLooks
namespace Go.Proofs.YtabecbjfamphbaaDoor
open Go.RowKit Go.Stop Go.Extern

/-- Every list of the book is its mark throughout. -/
def Kept (w : World) (ad : Option Addr) (len : Nat) : Prop :=
  ∀ i, i < len → ∃ r a n c, ad = some ⟨r, 0, none⟩ ∧ w.cell? ⟨r, i, none⟩ = some (.slice a n c) ∧ n ≤ 1000 ∧ Ints w a n (List.replicate n (-1000 - ((i / 4 * 4 : Nat) : Int)))

set_option maxRecDepth 100000 in
set_option maxHeartbeats 1000000 in
theorem lookInts_true (b : Nat) (ad : Option Addr) (len cap : Nat) (w : World) (h : w.cell? ⟨b, 0, none⟩ = some (.slice ad len cap)) (hl : len ≤ 1000) (hk : Kept w ad len) :
    Calls Tryd.prog 27 #[.pointer (some ⟨b, 0, none⟩)] w fun e w' => e = .returned (.bool true) ∧ w' = w := by
  have HK : Hid (Kept w ad len) := hk
  clear hk
  go_enter Tryd.func27, Tryd.ntmps27
  go_wp2_with fail
  go_loop [3] (fun c => ∃ k : Nat, k ≤ len ∧ c = .int .i64 k) (fun c => len - (intOf c).toNat)
  case atStart => exact ⟨0, Nat.zero_le _, rfl⟩
  case round =>
    obtain ⟨k, hkn, rfl⟩ := hrel
    by_cases hlt : k < len
    · obtain ⟨r, a, n, c, rfl, hc, hn, hi⟩ := HK.out k hlt
      have HI : Hid _ := hi
      clear hi
      have hklen : (k : Int) < (len : Int) := by omega
      have HM : Hid (∀ w, Calls Tryd.prog 39 #[.int .i64 ((k : Int) / 4 * 4)] w fun e w' => e = .returned (.int .i64 (-1000 - ((k / 4 * 4 : Nat) : Int))) ∧ w' = w) := fun w => by
        have := markInt_any ((k : Int) / 4 * 4) w (by omega) (by omega)
        rw [show (-1000 - (k : Int) / 4 * 4) = -1000 - ((k / 4 * 4 : Nat) : Int) by omega] at this
        exact this
      generalize (-1000 - ((k / 4 * 4 : Nat) : Int)) = m at *
      go_wp2_with fail
      refine (HM.out _).mono ?_
      rintro e w' ⟨rfl, rfl⟩
      go_wp2_with fail
      go_loop [5] (fun c => ∃ j : Nat, j ≤ n ∧ c = .int .i64 j) (fun c => n - (intOf c).toNat)
      case atStart => exact ⟨0, Nat.zero_le _, rfl⟩
      case round =>
        obtain ⟨j, hjn, rfl⟩ := hrel
        by_cases hj : j < n
        · obtain ⟨g, off, hge, _, hcell⟩ := HI.out.cell j hj
          subst hge
          rw [show (List.replicate n m).getD j 0 = m by simp [List.getD_eq_getElem?_getD, hj]] at hcell
          have hji : (j : Int) < (n : Int) := by omega
          have hmm : ((m : Int) != m) = false := by simp
          go_wp2_with fail
          go_round
          case rel => exact ⟨j + 1, by omega, by go_num⟩
          case measure => simp [intOf]; omega
        · go_wp2_with fail
          go_round
          case rel => exact ⟨k + 1, by omega, by go_num⟩
          case measure => simp [intOf]; omega
    · go_wp2_with fail
      go_ret
      exact ⟨rfl, rfl⟩
set_option maxRecDepth 100000 in
set_option maxHeartbeats 1000000 in
theorem looks_true (b : Nat) (ad : Option Addr) (len cap : Nat) (w : World) (h : w.cell? ⟨b, 0, none⟩ = some (.slice ad len cap)) (h1 : w.cell? ⟨b, 1, none⟩ = some (.slice none 0 0)) (h2 : w.cell? ⟨b, 2, none⟩ = some (.slice none 0 0)) (hl : len ≤ 1000) (hk : Kept w ad len) :
    Calls Tryd.prog 9 #[.pointer (some ⟨b, 0, none⟩)] w fun e w' => e = .returned (.bool true) ∧ w' = w := by
  have HK : Hid (Kept w ad len) := hk
  clear hk
  go_enter Tryd.func9, Tryd.ntmps9
  go_wp2_with fail
  refine (lookInts_true b ad len cap _ h hl HK.out).mono ?_
  rintro e w' ⟨rfl, rfl⟩
  go_wp2_with fail
  refine (lookWords_none b _ h1).mono ?_
  rintro e w'' ⟨rfl, rfl⟩
  go_wp2_with fail
  refine (lookPackets_none b _ h2).mono ?_
  rintro e w3 ⟨rfl, rfl⟩
  go_wp2_with fail
  go_ret
  exact ⟨rfl, rfl⟩
end Go.Proofs.YtabecbjfamphbaaDoor
