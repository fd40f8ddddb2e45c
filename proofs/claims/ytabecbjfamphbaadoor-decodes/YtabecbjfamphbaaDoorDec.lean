/-
  The law's decodes and Decodes.
-/
import Derived.Test.YtabecbjfamphbaaDoorBoth
namespace Go.Proofs.YtabecbjfamphbaaDoor
open Go.RowKit Go.Stop Go.Extern

set_option maxRecDepth 100000 in
set_option maxHeartbeats 4000000 in
theorem decodes_any (a0 a1 : Addr) (N W B L : Int) (s : ByteArray) (b base q : Nat) (w : World) (hw : Sent w a0 a1) (hT : ErrT w) (hs : s.size ≤ maxLen) (hbk : BookAt w b base q) (hq4 : q % 4 = 0) (hq : q ≤ 100) :
    Calls Tryd.prog 8 #[.pointer (some ⟨b, 0, none⟩), .agg #[.int .i64 N, .int .i64 W, .int .i64 B, .int .i64 L], .string s] w fun e w' => e = .returned (.bool true) ∧ BookAt w' b base (q + 4) ∧ Below b w w' := by
  obtain ⟨K, F, O, S, Lw, len, vs, body, p, k, ⟨hlen8, hvl, hz, hface, href⟩⟩ := both_any N W B L s hs
  have HW : Hid (Sent w a0 a1) := hw
  have HT : Hid (ErrT w) := hT
  have HF : Hid _ := hface
  have HR : Hid _ := href
  have HVL : Hid (vs.length = len) := hvl
  have HBK : Hid (BookAt w b base q) := hbk
  clear hw hT hface href hvl hs hbk
  obtain ⟨c0, c1, c2, c3⟩ := cbox w N W B L 23
  go_enter Tryd.func8, Tryd.ntmps8
  go_wp2_with fail
  refine (HF.out a0 a1 _ (HW.out.alloc _) (HT.out.below (below1 _ _))).mono ?_
  rintro e w1 ⟨⟨ao, rfl, hl, hg⟩, hb⟩
  have e0 : ∀ o, w1.cell? ⟨w.heap.size, o, none⟩ = (w.alloc (.cells #[.int .i64 N, .int .i64 W, .int .i64 B, .int .i64 L] 23)).cell? ⟨w.heap.size, o, none⟩ := fun o => hb.cell (p := ⟨w.heap.size, o, none⟩) (by simp)
  have d0 := (e0 0).trans c0
  have d1 := (e0 1).trans c1
  have d2 := (e0 2).trans c2
  have d3 := (e0 3).trans c3
  have HB1 : Hid (Below w.heap.size w w1) := bthen (below1 _ _) hb
  have HL1 : Hid (LRow w1 ao vs) := hl
  have HG : Hid (∀ g, ao = some ⟨g, 0, none⟩ → w.heap.size ≤ g) := fun g e => by have := hg g e; simp at this; omega
  have hz1 : w.heap.size < w1.heap.size := by have := hb.size; simp at this; omega
  clear hb hl hg e0 c0 c1 c2 c3
  go_wp2_with fail
  refine (HR.out _).mono ?_
  rintro e w2 ⟨⟨ad, cap, rfl, hi⟩, hb⟩
  have HS1 : Hid _ := (seven_alloc w1 (.int .i64 K) (.int .i64 F) (.int .i64 O) (.int .i64 S) (.int .i64 Lw) (.slice ao len len) (.string body) 26).below hb (by simp)
  have HB2 : Hid (Below w1.heap.size w1 w2) := bthen (below1 _ _) hb
  have HI2 : Hid (Ints w2 ad len vs) := hi
  have hz2 : w1.heap.size < w2.heap.size := HS1.out.z
  clear hb hi d0 d1 d2 d3
  have hal : Below w2.heap.size w2 (w2.alloc (.cells #[.int .i64 K, .int .i64 F, .int .i64 O, .int .i64 S, .int .i64 Lw, .slice ad len cap, .string body] 26)) := below1 _ _
  have hsg := seven_alloc w2 (.int .i64 K) (.int .i64 F) (.int .i64 O) (.int .i64 S) (.int .i64 Lw) (.slice ad len cap) (.string body) 26
  have hsf := HS1.out.below hal hz2
  have HSF : Hid _ := hsf
  have HSG : Hid _ := hsg
  have HAL : Hid _ := hal
  obtain ⟨f0, f1, f2, f3, f4, f5, f6, fz⟩ := hsf
  obtain ⟨g0, g1, g2, g3, g4, g5, g6, gz⟩ := hsg
  go_wp2_with fail
  generalize w2.alloc (.cells #[.int .i64 K, .int .i64 F, .int .i64 O, .int .i64 S, .int .i64 Lw, .slice ad len cap, .string body] 26) = X at *
  refine (sameInts_true ao ad len len cap vs X ((HL1.out.ints HVL.out).below (bthen HB2.out HAL.out)) (HI2.out.below HAL.out) (by omega)).mono ?_
  rintro e w3 ⟨rfl, hb3⟩
  have HB3 : Hid (Below w.heap.size w w3) := bthen HB1.out (bthen HB2.out (bthen HAL.out hb3))
  have HB13 : Hid (Below w1.heap.size w1 w3) := bthen HB2.out (bthen HAL.out hb3)
  have hF3 := HSF.out.below hb3 HSF.out.z
  have hG3 := HSG.out.below hb3 HSG.out.z
  clear f0 f1 f2 f3 f4 f5 f6 fz g0 g1 g2 g3 g4 g5 g6 gz hal hb3
  obtain ⟨f0, f1, f2, f3, f4, f5, f6, fz⟩ := hF3
  obtain ⟨g0, g1, g2, g3, g4, g5, g6, gz⟩ := hG3
  have eK : ((K : Int) == K) = true := by simp
  have eF : ((F : Int) == F) = true := by simp
  have eO : ((O : Int) == O) = true := by simp
  have eS : ((S : Int) == S) = true := by simp
  have eL : ((Lw : Int) == Lw) = true := by simp
  have ep : ((p : Int) == p) = true := by simp
  have ek : ((k : Int) == k) = true := by simp
  have hz' : len = 0 ∨ (k = 0 ∧ ((len : Int) == 0) = false) := by
    by_cases h : len = 0
    · exact Or.inl h
    · exact Or.inr ⟨hz.resolve_left h, by simp; omega⟩
  clear hz
  rcases hz' with rfl | ⟨rfl, hl0⟩
  all_goals
    go_wp2_with fail
    refine (num_any _ _).mono ?_
    rintro e w' ⟨rfl, rfl⟩
    go_wp2_with fail
    obtain ⟨av, cv, xs, rfl, hcb, hob, hmk⟩ := HBK.out.how
    have hbl : b < w.heap.size := lt_of_cell hcb
    have HLR : Hid (LRow w' ao vs) := by
      rcases HL1.out with ⟨rfl, rfl⟩ | ⟨g, rfl, hr⟩
      · exact Or.inl ⟨rfl, rfl⟩
      · exact Or.inr ⟨g, rfl, hr.below HB13.out hr.lt⟩
    refine (keepInts_any b base av cv xs ao _ vs w' ((HB3.out.cell (p := ⟨b, 0, none⟩) hbl).trans hcb) ((HB3.out.frozen (p := ⟨b, 0, none⟩) hbl).trans HBK.out.fr) ((HB3.out.cell (p := ⟨b, 1, none⟩) hbl).trans HBK.out.c1) ((HB3.out.cell (p := ⟨b, 2, none⟩) hbl).trans HBK.out.c2) (hob.low HB3.out) HBK.out.lt (Nat.le_trans HBK.out.le HB3.out.size) HLR.out
      (fun g hg => ⟨Nat.le_trans HBK.out.le (HG.out g hg), fun h => by have h1 := (World.ownsRow.lt hob g h).2; have h2 := HG.out g hg; omega⟩) hq HVL.out hlen8).mono ?_
    rintro e w4 ⟨rfl, hk⟩
    have HK : Hid _ := hk
    clear hk f0 f1 f2 f3 f4 f5 f6 g0 g1 g2 g3 g4 g5 g6
    go_wp2_with fail
    go_ret
    exact ⟨rfl, BookAt.kept rfl hcb hob hmk HBK.out.lt HBK.out.le HB3.out HK.out HG.out hq4⟩
theorem book_start (w : World) (t : TypeId) : BookAt (w.alloc (.cells #[.slice none 0 0, .slice none 0 0, .slice none 0 0] t)) w.heap.size (w.heap.size + 1) 0 := by
  have e : ∀ i, (w.alloc (.cells #[.slice none 0 0, .slice none 0 0, .slice none 0 0] t)).cell? ⟨w.heap.size, i, none⟩ = #[Value.slice none 0 0, .slice none 0 0, .slice none 0 0][i]? := fun i => cell_of_row _ _ i _ t (0, 0) (heap_alloc_new _ _)
  exact ⟨⟨none, 0, [], rfl, e 0, World.ownsRow_nil _ _ _ _, fun i x h => by simp at h⟩, e 1, e 2, frozen_of_row _ _ 0 _ t (heap_alloc_new _ _), by omega, by simp⟩
end Go.Proofs.YtabecbjfamphbaaDoor
