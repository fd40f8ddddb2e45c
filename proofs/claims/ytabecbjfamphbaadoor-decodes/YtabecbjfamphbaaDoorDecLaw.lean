/-
  The law's Decodes.
-/
import Derived.Test.YtabecbjfamphbaaDoorDec
namespace Go.Proofs.YtabecbjfamphbaaDoor
open Go.RowKit Go.Stop Go.Extern

set_option maxRecDepth 100000 in
set_option maxHeartbeats 2000000 in
theorem Decodes_any (a0 a1 : Addr) (N W B L : Int) (s s2 : ByteArray) (w : World) (hw : Sent w a0 a1) (hT : ErrT w) (hs : s.size ≤ maxLen) (hs2 : s2.size ≤ maxLen) :
    Calls Tryd.prog 4 #[.agg #[.int .i64 N, .int .i64 W, .int .i64 B, .int .i64 L], .string s, .string s2] w fun e w' => e = .returned (.bool true) ∧ Below w.heap.size w w' := by
  have HW : Hid (Sent w a0 a1) := hw
  have HT : Hid (ErrT w) := hT
  have HS : Hid _ := hs
  have HS2 : Hid _ := hs2
  clear hw hT hs hs2
  go_enter Tryd.func4, Tryd.ntmps4
  go_wp2_with fail
  have hal := below2 w (.cells #[.int .i64 N, .int .i64 W, .int .i64 B, .int .i64 L] 23) (.cells #[.slice none 0 0, .slice none 0 0, .slice none 0 0] 35)
  have hbk := book_start (w.alloc (.cells #[.int .i64 N, .int .i64 W, .int .i64 B, .int .i64 L] 23)) 35
  obtain ⟨c0, c1, c2, c3⟩ := cbox w N W B L 23
  rw [show (w.alloc (.cells #[.int .i64 N, .int .i64 W, .int .i64 B, .int .i64 L] 23)).heap.size = w.heap.size + 1 by simp] at hbk
  have hcf : ∀ o v, (w.alloc (.cells #[.int .i64 N, .int .i64 W, .int .i64 B, .int .i64 L] 23)).cell? ⟨w.heap.size, o, none⟩ = some v → ((w.alloc (.cells #[.int .i64 N, .int .i64 W, .int .i64 B, .int .i64 L] 23)).alloc (.cells #[.slice none 0 0, .slice none 0 0, .slice none 0 0] 35)).cell? ⟨w.heap.size, o, none⟩ = some v := fun o v h => ((below1 _ _).cell (p := ⟨w.heap.size, o, none⟩) (by simp)).trans h
  replace c0 := hcf _ _ c0
  replace c1 := hcf _ _ c1
  replace c2 := hcf _ _ c2
  replace c3 := hcf _ _ c3
  clear hcf
  generalize (w.alloc (.cells #[.int .i64 N, .int .i64 W, .int .i64 B, .int .i64 L] 23)).alloc (.cells #[.slice none 0 0, .slice none 0 0, .slice none 0 0] 35) = X at *
  have HA0 : Hid (Below w.heap.size w X) := hal
  refine (decodes_any a0 a1 N W B L s (w.heap.size + 1) (w.heap.size + 1 + 1) 0 X (HW.out.below hal) (HT.out.below hal) HS.out hbk rfl (by omega)).mono ?_
  rintro e w1 ⟨rfl, hk1, hb1⟩
  have HK1 : Hid _ := hk1
  have HA1 : Hid (Below w.heap.size w w1) := HA0.out.trans (hb1.mono (by omega))
  replace c0 := (hb1.cell (p := ⟨w.heap.size, 0, none⟩) (Nat.lt_succ_self _)).trans c0
  replace c1 := (hb1.cell (p := ⟨w.heap.size, 1, none⟩) (Nat.lt_succ_self _)).trans c1
  replace c2 := (hb1.cell (p := ⟨w.heap.size, 2, none⟩) (Nat.lt_succ_self _)).trans c2
  replace c3 := (hb1.cell (p := ⟨w.heap.size, 3, none⟩) (Nat.lt_succ_self _)).trans c3
  clear hal hbk hk1 hb1
  go_wp2_with fail
  refine (decodes_any a0 a1 N W B L s2 (w.heap.size + 1) (w.heap.size + 1 + 1) (0 + 4) w1 (HW.out.below HA1.out) (HT.out.below HA1.out) HS2.out HK1.out rfl (by omega)).mono ?_
  rintro e w2 ⟨rfl, hk1, hb1⟩
  have HK2 : Hid _ := hk1
  have HA2 : Hid (Below w.heap.size w w2) := HA1.out.trans (hb1.mono (by omega))
  replace c0 := (hb1.cell (p := ⟨w.heap.size, 0, none⟩) (Nat.lt_succ_self _)).trans c0
  replace c1 := (hb1.cell (p := ⟨w.heap.size, 1, none⟩) (Nat.lt_succ_self _)).trans c1
  replace c2 := (hb1.cell (p := ⟨w.heap.size, 2, none⟩) (Nat.lt_succ_self _)).trans c2
  replace c3 := (hb1.cell (p := ⟨w.heap.size, 3, none⟩) (Nat.lt_succ_self _)).trans c3
  clear hk1 hb1
  go_wp2_with fail
  refine (decodes_any a0 a1 N W B L s (w.heap.size + 1) (w.heap.size + 1 + 1) (0 + 4 + 4) w2 (HW.out.below HA2.out) (HT.out.below HA2.out) HS.out HK2.out rfl (by omega)).mono ?_
  rintro e w3 ⟨rfl, hk1, hb1⟩
  have HK3 : Hid _ := hk1
  have HA3 : Hid (Below w.heap.size w w3) := HA2.out.trans (hb1.mono (by omega))
  clear hk1 hb1 c0 c1 c2 c3
  go_wp2_with fail
  obtain ⟨av, cv, xs, hxl, hcb, hob, hmk⟩ := HK3.out.how
  refine (looks_true (w.heap.size + 1) av (0 + 4 + 4 + 4) cv w3 hcb HK3.out.c1 HK3.out.c2 (by omega) (kept_of hob hmk hxl)).mono ?_
  rintro e w4 ⟨rfl, rfl⟩
  clear hcb hob hmk
  go_wp2_with fail
  go_ret
  exact ⟨rfl, HA3.out⟩
end Go.Proofs.YtabecbjfamphbaaDoor
