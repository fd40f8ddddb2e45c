/-
  The law's same: two frames that are the same.
-/
import Derived.Test.YtabecbjfamphbaaDoorHDec
import Derived.Test.YtabecbjfamphbaaDoorPick
namespace Go.Proofs.YtabecbjfamphbaaDoor
open Go.RowKit Go.Stop Go.Extern
theorem Seven.drewN {g : Nat} {x : World} {v0 v1 v2 v3 v4 v5 v6 : Value} (h : Seven g x v0 v1 v2 v3 v4 v5 v6) (n : Nat) : Seven g (x.drewN n) v0 v1 v2 v3 v4 v5 v6 := h.below (c := x.heap.size) (below_drewN (Below.refl _ _) n) h.z

set_option maxRecDepth 100000 in
set_option maxHeartbeats 2000000 in
theorem same_true (K F O S Lw : Int) (ad ad' : Option Addr) (n cap cap' : Nat) (body : ByteArray) (vs : List Int) (w : World) (ha : Ints w ad n vs) (hb : Ints w ad' n vs) (hn : n ≤ 1000) :
    Calls Tryd.prog 14 #[.agg #[.int .i64 K, .int .i64 F, .int .i64 O, .int .i64 S, .int .i64 Lw, .slice ad n cap, .string body], .agg #[.int .i64 K, .int .i64 F, .int .i64 O, .int .i64 S, .int .i64 Lw, .slice ad' n cap', .string body]] w
      fun e w' => e = .returned (.bool true) ∧ Below w.heap.size w w' := by
  have HA : Hid (Ints w ad n vs) := ha
  have HB : Hid (Ints w ad' n vs) := hb
  clear ha hb
  have hs1 := seven_alloc w (.int .i64 K) (.int .i64 F) (.int .i64 O) (.int .i64 S) (.int .i64 Lw) (.slice ad n cap) (.string body) 26
  have hs2 := seven_alloc (w.alloc (.cells #[.int .i64 K, .int .i64 F, .int .i64 O, .int .i64 S, .int .i64 Lw, .slice ad n cap, .string body] 26)) (.int .i64 K) (.int .i64 F) (.int .i64 O) (.int .i64 S) (.int .i64 Lw) (.slice ad' n cap') (.string body) 26
  have hs1' := hs1.below (below1 _ (.cells #[.int .i64 K, .int .i64 F, .int .i64 O, .int .i64 S, .int .i64 Lw, .slice ad' n cap', .string body] 26)) hs1.z
  rw [show (w.alloc (.cells #[.int .i64 K, .int .i64 F, .int .i64 O, .int .i64 S, .int .i64 Lw, .slice ad n cap, .string body] 26)).heap.size = w.heap.size + 1 by simp] at hs2
  have HS1 : Hid _ := hs1'
  have HS2 : Hid _ := hs2
  clear hs1 hs2 hs1'
  go_enter Tryd.func14, Tryd.ntmps14
  go_wp2_with fail
  go_loopw [5] (fun c wr => ∃ k : Nat, k ≤ n ∧ c = .int .i64 k ∧ Below w.heap.size w wr ∧ Seven w.heap.size wr (.int .i64 K) (.int .i64 F) (.int .i64 O) (.int .i64 S) (.int .i64 Lw) (.slice ad n cap) (.string body) ∧ Seven (w.heap.size + 1) wr (.int .i64 K) (.int .i64 F) (.int .i64 O) (.int .i64 S) (.int .i64 Lw) (.slice ad' n cap') (.string body)) (fun c _ => n - (intOf c).toNat)
  case atStart => exact ⟨0, Nat.zero_le _, rfl, below2 _ _ _, HS1.out, HS2.out⟩
  case round =>
    obtain ⟨k, hkn, rfl, hbel, h1, h2⟩ := hrel
    have HBel : Hid (Below w.heap.size w wr) := hbel
    have H1 : Hid _ := h1
    have H2 : Hid _ := h2
    obtain ⟨a0, a1, a2, a3, a4, a5, a6, az⟩ := h1
    obtain ⟨b0, b1, b2, b3, b4, b5, b6, bz⟩ := h2
    clear a0 a1 a2 a3 a4 a6 b0 b1 b2 b3 b4 b6
    by_cases hlt : k < n
    · obtain ⟨b, off, he, _, hc⟩ := (HA.out.below hbel).cell k hlt
      obtain ⟨b', off', he', _, hc'⟩ := (HB.out.below hbel).cell k hlt
      subst he he'
      clear hbel
      generalize vs.getD k 0 = y at *
      have hne : ((y : Int) != y) = false := by simp
      have hlti : (k : Int) < (n : Int) := by omega
      go_wp2_with fail
      go_quiet (fail)
      go_wp2_with fail
      go_roundw
      case rel => exact ⟨k + 1, by omega, by go_num, below_drewN HBel.out _, Seven.drewN H1.out _, Seven.drewN H2.out _⟩
      case measure => simp [intOf]; omega
    · have : k = n := by omega
      subst this
      clear hbel
      go_wp2_with fail
      go_ret
      exact ⟨rfl, HBel.out⟩
end Go.Proofs.YtabecbjfamphbaaDoor
