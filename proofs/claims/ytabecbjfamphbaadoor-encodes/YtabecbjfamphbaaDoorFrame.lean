/-
  The walk of checkFrame; the rules together say what a frame is.
-/
import Derived.Test.YtabecbjfamphbaaDoorRules2
namespace Go.Proofs.YtabecbjfamphbaaDoor
open Go.RowKit Go.Stop Go.Extern

def rFrame (N W B L K F O S Lw : Int) (vs : List Int) (body : ByteArray) : Option (Option Int) :=
  match rKind K with
  | some x => some x
  | none => match rFrom N F with
    | some x => some x
    | none => if K = 2 then rState N L K O S Lw vs body.toList.isEmpty else rData N W B L K O S Lw vs body.size

set_option maxHeartbeats 2000000 in
theorem checkFrame_any (a0 a1 : Addr) (N W B L K F O S Lw : Int) (ad : Option Addr) (len cap : Nat) (body : ByteArray) (vs : List Int) (w : World) (hw : Sent w a0 a1) (hi : Ints w ad len vs)
    (hG : okG N W B L = true) (hl : len ≤ maxLen) (hbd : body.size ≤ maxLen) :
    Calls Tryd.prog 47 #[.agg #[.int .i64 N, .int .i64 W, .int .i64 B, .int .i64 L], .agg #[.int .i64 K, .int .i64 F, .int .i64 O, .int .i64 S, .int .i64 Lw, .slice ad len cap, .string body]] w fun e w' => (∃ v, e = .returned v ∧ IsF a1 v (rFrame N W B L K F O S Lw vs body)) ∧ Below w.heap.size w w' := by
  have HW : Hid (Sent w a0 a1) := hw
  have HI : Hid (Ints w ad len vs) := hi
  have HG : Hid (okG N W B L = true) := hG
  have HLm : Hid (len ≤ maxLen) := hl
  have HBd : Hid (body.size ≤ maxLen) := hbd
  clear hw hi hG hl hbd
  go_enter Tryd.func47, Tryd.ntmps47
  go_wp2_with fail
  refine (checkKind_any a0 a1 K F O S Lw ad len cap body _ ((HW.out.alloc _).alloc _)).mono ?_
  rintro e w1 ⟨⟨v, rfl, hv⟩, hb⟩
  have HB : Hid _ := hb
  have hc1 := (bcell hb).1
  have hz1 : w.heap.size + 1 < w1.heap.size := by have := hb.size; simp at this; omega
  have hz0 : w.heap.size < w1.heap.size := by omega
  clear hb
  cases hr : rKind K with
  | some x =>
    rw [hr] at hv
    have HV : Hid (IsF a1 v (some x)) := hv
    have HRR : Hid (rFrame N W B L K F O S Lw vs body = some x) := by show rFrame N W B L K F O S Lw vs body = _; unfold rFrame; rw [hr]
    obtain ⟨t, y, rfl⟩ := hv.nil_iff.2 x rfl
    clear hv hr
    go_wp2
    go_ret
    rw [HRR.out]
    exact ⟨⟨_, rfl, HV.out⟩, bthen (below2 _ _ _) HB.out⟩
  | none =>
    rw [hr] at hv
    obtain rfl := hv.nil_iff.1 rfl
    have hK : K = 1 ∨ K = 2 := by
      by_cases h : K = 1 ∨ K = 2
      · exact h
      · unfold rKind at hr; rw [if_neg h] at hr; cases hr
    have HKR : Hid (rKind K = none) := hr
    clear hv hr
    go_wp2_with fail
    refine (checkFrom_any a0 a1 N W B L K F O S Lw ad len cap body _ (((HW.out.alloc _).alloc _).below HB.out)).mono ?_
    rintro e w2 ⟨⟨v, rfl, hv⟩, hb2⟩
    have HB2 : Hid _ := hb2
    have hc2 := (bcell hb2).1
    have hy1 : w.heap.size + 1 < w2.heap.size := by have := hb2.size; omega
    have hy0 : w.heap.size < w2.heap.size := by omega
    clear hb2
    cases hr : rFrom N F with
    | some x =>
      rw [hr] at hv
      have HV : Hid (IsF a1 v (some x)) := hv
      have HRR : Hid (rFrame N W B L K F O S Lw vs body = some x) := by show rFrame N W B L K F O S Lw vs body = _; unfold rFrame; rw [HKR.out, hr]
      obtain ⟨t, y, rfl⟩ := hv.nil_iff.2 x rfl
      clear hv hr hK
      go_wp2
      go_ret
      rw [HRR.out]
      exact ⟨⟨_, rfl, HV.out⟩, bthen (bthen (below2 _ _ _) HB.out) HB2.out⟩
    | none =>
      rw [hr] at hv
      obtain rfl := hv.nil_iff.1 rfl
      have HFR : Hid (rFrom N F = none) := hr
      clear hv hr
      rcases hK with rfl | rfl
      · have HRR : Hid (rFrame N W B L 1 F O S Lw vs body = rData N W B L 1 O S Lw vs body.size) := by show rFrame N W B L 1 F O S Lw vs body = _; unfold rFrame; rw [HKR.out, HFR.out]; rfl
        go_wp2_with fail
        refine (checkData_any a0 a1 N W B L 1 F O S Lw ad len cap body vs _ ((((HW.out.alloc _).alloc _).below HB.out).below HB2.out) ((((HI.out.alloc _).alloc _).below HB.out).below HB2.out) HG.out HLm.out HBd.out).mono ?_
        rintro e w3 ⟨⟨v, rfl, hv⟩, hb3⟩
        have HB3 : Hid _ := hb3
        have HV : Hid _ := hv
        clear hb3 hv
        go_wp2
        go_ret
        rw [HRR.out]
        exact ⟨⟨_, rfl, HV.out⟩, bthen (bthen (bthen (below2 _ _ _) HB.out) HB2.out) HB3.out⟩
      · have HRR : Hid (rFrame N W B L 2 F O S Lw vs body = rState N L 2 O S Lw vs body.toList.isEmpty) := by show rFrame N W B L 2 F O S Lw vs body = _; unfold rFrame; rw [HKR.out, HFR.out]; rfl
        go_wp2_with fail
        refine (checkState_any a0 a1 N W B L 2 F O S Lw ad len cap body vs _ ((((HW.out.alloc _).alloc _).below HB.out).below HB2.out) ((((HI.out.alloc _).alloc _).below HB.out).below HB2.out) HG.out HLm.out).mono ?_
        rintro e w3 ⟨⟨v, rfl, hv⟩, hb3⟩
        have HB3 : Hid _ := hb3
        have HV : Hid _ := hv
        clear hb3 hv
        go_wp2
        go_ret
        rw [HRR.out]
        exact ⟨⟨_, rfl, HV.out⟩, bthen (bthen (bthen (below2 _ _ _) HB.out) HB2.out) HB3.out⟩
end Go.Proofs.YtabecbjfamphbaaDoor
