/-
  The law's own walks: sums, encodes, Encodes.
-/
import Derived.Test.YtabecbjfamphbaaDoorLent
namespace Go.Proofs.YtabecbjfamphbaaDoor
open Go.RowKit Go.Stop Go.Extern

theorem cbox (w : World) (N W B L : Int) (t : TypeId) : (w.alloc (.cells #[.int .i64 N, .int .i64 W, .int .i64 B, .int .i64 L] t)).cell? ⟨w.heap.size, 0, none⟩ = some (.int .i64 N) ∧ (w.alloc (.cells #[.int .i64 N, .int .i64 W, .int .i64 B, .int .i64 L] t)).cell? ⟨w.heap.size, 1, none⟩ = some (.int .i64 W) ∧ (w.alloc (.cells #[.int .i64 N, .int .i64 W, .int .i64 B, .int .i64 L] t)).cell? ⟨w.heap.size, 2, none⟩ = some (.int .i64 B) ∧ (w.alloc (.cells #[.int .i64 N, .int .i64 W, .int .i64 B, .int .i64 L] t)).cell? ⟨w.heap.size, 3, none⟩ = some (.int .i64 L) := by
  refine ⟨?_, ?_, ?_, ?_⟩ <;> simp

set_option maxHeartbeats 1000000 in
theorem sums_any (a0 a1 : Addr) (N W B L : Int) (s : ByteArray) (w : World) (hw : Sent w a0 a1) (hs : s.size ≤ maxLen) :
    Calls Tryd.prog 6 #[.agg #[.int .i64 N, .int .i64 W, .int .i64 B, .int .i64 L], .string s] w fun e w' => e = .returned (.bool true) ∧ Below w.heap.size w w' := by
  have HW : Hid (Sent w a0 a1) := hw
  have HS : Hid (s.size ≤ maxLen) := hs
  clear hw hs
  obtain ⟨c0, c1, c2, c3⟩ := cbox w N W B L 23
  go_enter Tryd.func6, Tryd.ntmps6
  go_wp2_with fail
  refine (hCheck_any a0 a1 N W B L _ (HW.out.alloc _)).mono ?_
  rintro e w1 ⟨rfl, hb⟩
  have HB : Hid _ := hb
  have e0 : ∀ o, w1.cell? ⟨w.heap.size, o, none⟩ = (w.alloc (.cells #[.int .i64 N, .int .i64 W, .int .i64 B, .int .i64 L] 23)).cell? ⟨w.heap.size, o, none⟩ := fun o => hb.cell (p := ⟨w.heap.size, o, none⟩) (by simp)
  have d0 := (e0 0).trans c0
  have d1 := (e0 1).trans c1
  have d2 := (e0 2).trans c2
  have d3 := (e0 3).trans c3
  clear hb e0 c0 c1 c2 c3
  generalize hn : (if okG N W B L = true then (0 : Int) else 1) = n
  have HN : Hid ((if okG N W B L = true then (0 : Int) else 1) = n) := hn
  clear hn
  go_wp2_with fail
  refine (refCheck_any N W B L _).mono ?_
  rintro e w2 ⟨rfl, hb2⟩
  rw [HN.out]
  have HB2 : Hid _ := hb2
  clear hb2
  go_wp2_with (first | (go_at_call 18; refine (hSum_any _ _ HS.out).mono ?_; rintro e w' ⟨rfl, rfl⟩) | (go_at_call 19; refine (refSum_any _ _ HS.out).mono ?_; rintro e w' ⟨rfl, rfl⟩) | (go_at_call 20; refine (num_any _ _).mono ?_; rintro e w' ⟨rfl, rfl⟩))
  go_ret
  exact ⟨rfl, bthen (bthen (below1 _ _) HB.out) HB2.out⟩

set_option maxRecDepth 100000 in
set_option maxHeartbeats 2000000 in
theorem encodes_some (a0 a1 : Addr) (N W B L K F O S Lw : Int) (a : Addr) (len cap : Nat) (body : ByteArray) (vs : List Int) (w : World) (hw : Sent w a0 a1) (hi : Ints w (some a) len vs)
    (hl : len * 8 ≤ 140737488351232) (hbd : body.size ≤ maxLen) :
    Calls Tryd.prog 7 #[.agg #[.int .i64 N, .int .i64 W, .int .i64 B, .int .i64 L], .agg #[.int .i64 K, .int .i64 F, .int .i64 O, .int .i64 S, .int .i64 Lw, .slice (some a) len cap, .string body]] w fun e w' => e = .returned (.bool true) ∧ Below w.heap.size w w' := by
  have hold : 0 < len → a.block < w.heap.size := fun h => by
    obtain ⟨b, off, e, hb, _⟩ := hi.cell 0 h
    cases e; exact hb
  have HOld : Hid (0 < len → a.block < w.heap.size) := hold
  clear hold
  have HW : Hid (Sent w a0 a1) := hw
  have HI : Hid (Ints w (some a) len vs) := hi
  have HL : Hid (vs.length = len) := hi.len
  have HLm : Hid (len ≤ maxLen) := by show _ ≤ _; unfold maxLen; omega
  have HBd : Hid (body.size ≤ maxLen) := hbd
  clear hw hi hbd
  have HBX0 : Hid _ := boxes_start w N W B L K F O S Lw (some a) len cap body 23 26
  have HB0 : Hid _ := below2 w (.cells #[.int .i64 N, .int .i64 W, .int .i64 B, .int .i64 L] 23) (.cells #[.int .i64 K, .int .i64 F, .int .i64 O, .int .i64 S, .int .i64 Lw, .slice (some a) len cap, .string body] 26)
  go_enter Tryd.func7, Tryd.ntmps7
  go_wp2_with fail
  refine (lentInts_some a len cap vs _ ((HI.out.alloc _).alloc _) hl).mono ?_
  rintro e w1 ⟨rfl, hr, hb⟩
  have HB : Hid _ := hb
  have BX1 := HBX0.out.below hb (by simp)
  have HBX1 : Hid _ := BX1
  obtain ⟨cN, cW, cB, cL, cK, cF, cO, cS, cLw, cV, cT, cz⟩ := BX1
  have hsz : ((w.alloc (.cells #[.int .i64 N, .int .i64 W, .int .i64 B, .int .i64 L] 23)).alloc (.cells #[.int .i64 K, .int .i64 F, .int .i64 O, .int .i64 S, .int .i64 Lw, .slice (some a) len cap, .string body] 26)).heap.size = w.heap.size + 2 := by simp
  rw [hsz] at hr
  have HR : Hid (RowI w1 (w.heap.size + 2) (lent vs (len + 5))) := hr
  rw [hsz]
  have hz1 : w.heap.size + 1 < w1.heap.size := by omega
  have hz0 : w.heap.size < w1.heap.size := by omega
  have hz2 : w.heap.size + 2 < w1.heap.size := HR.out.lt
  clear hr hb hsz
  have HBA : Hid (Below w.heap.size w w1) := bthen HB0.out HB.out
  have HI1 : Hid (Ints w1 (some a) len vs) := HI.out.below HBA.out
  have HLi : Hid (Ints w1 (some ⟨w.heap.size + 2, 0, none⟩) len vs) := by have := RowI.ints (vs := vs) HR.out; rw [HL.out] at this; exact this
  have HW1 : Hid (Sent w1 a0 a1) := HW.out.below HBA.out
  go_wp2_with fail
  refine (hEncode_any a0 a1 N W B L K F O S Lw (some ⟨w.heap.size + 2, 0, none⟩) len (len + 5) body vs _ (HW1.out.alloc _) (HLi.out.alloc _) HLm.out HBd.out).mono ?_
  rintro e w2 ⟨rfl, hb2⟩
  have HB2 : Hid (Below w1.heap.size w1 w2) := bthen (below1 _ _) hb2
  have BX2 := HBX1.out.below HB2.out cz
  have HBX2 : Hid _ := BX2
  clear cN cW cB cL cK cF cO cS cLw cV cT cz hb2 hz0 hz1
  obtain ⟨cN, cW, cB, cL, cK, cF, cO, cS, cLw, cV, cT, cz⟩ := BX2
  generalize hg1 : encR N W B L K F O S Lw vs body = r
  have HRR : Hid (encR N W B L K F O S Lw vs body = r) := hg1
  clear hg1
  go_wp2_with fail
  refine (refEncode_any N W B L K F O S Lw (some a) len cap body vs _ (HI1.out.below HB2.out) HLm.out HBd.out).mono ?_
  rintro e w3 ⟨rfl, hb3⟩
  rw [HRR.out]
  have HB3 : Hid _ := hb3
  have BX3 := HBX2.out.below hb3 cz
  clear cN cW cB cL cK cF cO cS cLw cV cT cz hb3
  obtain ⟨cN, cW, cB, cL, cK, cF, cO, cS, cLw, cV, cT, cz⟩ := BX3
  have HR3 : Hid (RowI w3 (w.heap.size + 2) (lent vs (len + 5))) := (HR.out.below HB2.out hz2).below HB3.out (Nat.lt_of_lt_of_le hz2 HB2.out.size)
  have HI3 : Hid (Ints w3 (some a) len vs) := (HI1.out.below HB2.out).below HB3.out
  go_wp2_with fail
  refine (wholeInts_some (w.heap.size + 2) a len cap vs _ HR3.out HI3.out (fun h => Nat.lt_of_lt_of_le (HOld.out h) (by omega)) hl).mono ?_
  rintro e w4 ⟨rfl, hb4⟩
  have HB4 : Hid _ := hb4
  clear hb4
  go_wp2_with (go_at_call 20; refine (num_any _ _).mono ?_; rintro e w' ⟨rfl, rfl⟩)
  go_ret
  exact ⟨rfl, (bthen HBA.out (bthen HB2.out HB3.out)).trans (HB4.out.mono (by omega))⟩

theorem ints_nil (w : World) : Ints w none 0 [] := ⟨rfl, fun _ hi => absurd hi (Nat.not_lt_zero _)⟩

set_option maxRecDepth 100000 in
set_option maxHeartbeats 2000000 in
theorem encodes_nil (a0 a1 : Addr) (N W B L K F O S Lw : Int) (body : ByteArray) (w : World) (hw : Sent w a0 a1) (hbd : body.size ≤ maxLen) :
    Calls Tryd.prog 7 #[.agg #[.int .i64 N, .int .i64 W, .int .i64 B, .int .i64 L], .agg #[.int .i64 K, .int .i64 F, .int .i64 O, .int .i64 S, .int .i64 Lw, .slice none 0 0, .string body]] w fun e w' => e = .returned (.bool true) ∧ Below w.heap.size w w' := by
  have HW : Hid (Sent w a0 a1) := hw
  have HBd : Hid (body.size ≤ maxLen) := hbd
  clear hw hbd
  have HBX0 : Hid _ := boxes_start w N W B L K F O S Lw none 0 0 body 23 26
  have HB0 : Hid _ := below2 w (.cells #[.int .i64 N, .int .i64 W, .int .i64 B, .int .i64 L] 23) (.cells #[.int .i64 K, .int .i64 F, .int .i64 O, .int .i64 S, .int .i64 Lw, .slice none 0 0, .string body] 26)
  have BX1 := HBX0.out
  go_enter Tryd.func7, Tryd.ntmps7
  go_wp2_with (go_at_call 21; refine (lentInts_nil _).mono ?_; rintro e w' ⟨rfl, rfl⟩)
  refine (hEncode_any a0 a1 N W B L K F O S Lw none 0 0 body [] _ (((HW.out.alloc _).alloc _).alloc _) (ints_nil _) (by decide) HBd.out).mono ?_
  rintro e w2 ⟨rfl, hb2⟩
  have HB2 : Hid (Below _ _ w2) := bthen (below1 _ _) hb2
  have BX2 := BX1.below HB2.out (by simp)
  have HBX2 : Hid _ := BX2
  clear hb2 BX1
  obtain ⟨cN, cW, cB, cL, cK, cF, cO, cS, cLw, cV, cT, cz⟩ := BX2
  generalize hg1 : encR N W B L K F O S Lw [] body = r
  have HRR : Hid (encR N W B L K F O S Lw [] body = r) := hg1
  clear hg1
  go_wp2_with fail
  refine (refEncode_any N W B L K F O S Lw none 0 0 body [] _ (ints_nil _) (by decide) HBd.out).mono ?_
  rintro e w3 ⟨rfl, hb3⟩
  rw [HRR.out]
  have HB3 : Hid _ := hb3
  have BX3 := HBX2.out.below hb3 cz
  clear cN cW cB cL cK cF cO cS cLw cV cT cz hb3
  obtain ⟨cN, cW, cB, cL, cK, cF, cO, cS, cLw, cV, cT, cz⟩ := BX3
  go_wp2_with (first | (go_at_call 23; refine (wholeInts_nil _ _).mono ?_; rintro e w' ⟨rfl, rfl⟩) | (go_at_call 20; refine (num_any _ _).mono ?_; rintro e w' ⟨rfl, rfl⟩))
  go_ret
  exact ⟨rfl, bthen (bthen HB0.out HB2.out) HB3.out⟩

/-- The slice of a frame's vector: nil, or numbers in memory. -/
structure VecIs (w : World) (ad : Option Addr) (len cap : Nat) (vs : List Int) : Prop where
  ints : Ints w ad len vs
  bytes : len * 8 ≤ 140737488351232
  nil : ad = none → len = 0 ∧ cap = 0
theorem encodes_any (a0 a1 : Addr) (N W B L K F O S Lw : Int) (ad : Option Addr) (len cap : Nat) (body : ByteArray) (vs : List Int) (w : World) (hw : Sent w a0 a1) (hv : VecIs w ad len cap vs) (hbd : body.size ≤ maxLen) :
    Calls Tryd.prog 7 #[.agg #[.int .i64 N, .int .i64 W, .int .i64 B, .int .i64 L], .agg #[.int .i64 K, .int .i64 F, .int .i64 O, .int .i64 S, .int .i64 Lw, .slice ad len cap, .string body]] w fun e w' => e = .returned (.bool true) ∧ Below w.heap.size w w' := by
  cases ad with
  | none =>
    obtain ⟨rfl, rfl⟩ := hv.nil rfl
    exact encodes_nil a0 a1 N W B L K F O S Lw body w hw hbd
  | some a => exact encodes_some a0 a1 N W B L K F O S Lw a len cap body vs w hw hv.ints hv.bytes hbd
theorem VecIs.below {w w' : World} {ad : Option Addr} {len cap : Nat} {vs : List Int} (h : VecIs w ad len cap vs) (hb : Below w.heap.size w w') : VecIs w' ad len cap vs :=
  ⟨h.ints.below hb, h.bytes, h.nil⟩

set_option maxRecDepth 100000 in
set_option maxHeartbeats 2000000 in
theorem Encodes_any (a0 a1 : Addr) (N W B L K F O S Lw : Int) (ad : Option Addr) (len cap : Nat) (body s : ByteArray) (vs : List Int) (w : World) (hw : Sent w a0 a1) (hv : VecIs w ad len cap vs) (hbd : body.size ≤ maxLen) (hs : s.size ≤ maxLen) :
    Calls Tryd.prog 3 #[.agg #[.int .i64 N, .int .i64 W, .int .i64 B, .int .i64 L], .agg #[.int .i64 K, .int .i64 F, .int .i64 O, .int .i64 S, .int .i64 Lw, .slice ad len cap, .string body], .string s] w fun e w' => e = .returned (.bool true) ∧ Below w.heap.size w w' := by
  have HW : Hid (Sent w a0 a1) := hw
  have HV : Hid (VecIs w ad len cap vs) := hv
  have HBd : Hid (body.size ≤ maxLen) := hbd
  have HS : Hid (s.size ≤ maxLen) := hs
  clear hw hv hbd hs
  have HBX0 : Hid _ := boxes_start w N W B L K F O S Lw ad len cap body 23 26
  have HB0 : Hid _ := below2 w (.cells #[.int .i64 N, .int .i64 W, .int .i64 B, .int .i64 L] 23) (.cells #[.int .i64 K, .int .i64 F, .int .i64 O, .int .i64 S, .int .i64 Lw, .slice ad len cap, .string body] 26)
  go_enter Tryd.func3, Tryd.ntmps3
  go_wp2_with fail
  refine (sums_any a0 a1 N W B L s _ ((HW.out.alloc _).alloc _) HS.out).mono ?_
  rintro e w1 ⟨rfl, hb⟩
  have HB : Hid _ := hb
  have BX1 := HBX0.out.below hb (by simp)
  clear hb
  obtain ⟨cN, cW, cB, cL, cK, cF, cO, cS, cLw, cV, cT, cz⟩ := BX1
  have HBA : Hid (Below w.heap.size w w1) := bthen HB0.out HB.out
  go_wp2_with fail
  refine (encodes_any a0 a1 N W B L K F O S Lw ad len cap body vs _ (HW.out.below HBA.out) (HV.out.below HBA.out) HBd.out).mono ?_
  rintro e w2 ⟨rfl, hb2⟩
  have HB2 : Hid _ := hb2
  clear hb2
  go_wp2
  go_ret
  exact ⟨rfl, bthen HBA.out HB2.out⟩
end Go.Proofs.YtabecbjfamphbaaDoor
