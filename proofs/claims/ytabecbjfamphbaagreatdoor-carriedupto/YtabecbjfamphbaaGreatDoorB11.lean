/-
  Texts that the proofs of this seat share, joined: Rules2.
-/
import Derived.Test.YtabecbjfamphbaaGreatDoorB10
/- The walks of checkState, checkData and checkFrame. -/
namespace Go.Proofs.YtabecbjfamphbaaGreatDoor
open Go.RowKit Go.Stop Go.Extern

set_option maxHeartbeats 2000000 in
theorem checkState_any (a0 a1 : Addr) (N W B L K F O S Lw : Int) (ad : Option Addr) (len cap : Nat) (body : ByteArray) (vs : List Int) (w : World) (hw : Sent w a0 a1) (hi : Ints w ad len vs)
    (hG : okG N W B L = true) (hl : len ≤ maxLen) :
    Calls Tryz.prog 206 #[.agg #[.int .i64 N, .int .i64 W, .int .i64 B, .int .i64 L], .agg #[.int .i64 K, .int .i64 F, .int .i64 O, .int .i64 S, .int .i64 Lw, .slice ad len cap, .string body]] w fun e w' => (∃ v, e = .returned v ∧ IsF a1 v (rState N L K O S Lw vs body.toList.isEmpty)) ∧ Below w.heap.size w w' := by
  have HW : Hid (Sent w a0 a1) := hw
  have HI : Hid (Ints w ad len vs) := hi
  have HG : Hid (okG N W B L = true) := hG
  have HLm : Hid (len ≤ maxLen) := hl
  clear hw hi hG hl
  by_cases hO : O = 0
  · by_cases hS : S = 0
    · by_cases hLw : Lw = 0
      · by_cases hE : body.toList.isEmpty = true
        · rw [show rState N L K O S Lw vs body.toList.isEmpty = rVec N L K O S vs from if_pos ⟨hO, hS, hLw, hE⟩]
          subst hO hS hLw
          go_enter Tryz.func206, Tryz.ntmps206
          go_wp2_with fail
          refine (checkVector_any a0 a1 N W B L K F 0 0 0 ad len cap body vs _ ((HW.out.alloc _).alloc _) ((HI.out.alloc _).alloc _) HG.out (by omega) HLm.out).mono ?_
          rintro e w' ⟨⟨v, rfl, hv⟩, hb⟩
          have HB : Hid _ := hb
          have HV : Hid _ := hv
          clear hb hv
          go_wp2
          go_ret
          exact ⟨⟨_, rfl, HV.out⟩, bthen (below2 _ _ _) HB.out⟩
        · rw [show rState N L K O S Lw vs body.toList.isEmpty = some none from if_neg (fun h => hE h.2.2.2)]
          subst hO hS hLw
          have hE' : body.toList.isEmpty = false := by simpa using hE
          clear hE
          go_enter Tryz.func206, Tryz.ntmps206
          go_wp2_with (go_at_call 227; refine (wireRefuse_any a0 a1 _ _ ((HW.out.alloc _).alloc _)).mono ?_; rintro e w' ⟨rfl, rfl⟩)
          go_ret
          exact ⟨⟨_, rfl, IsF.why a1 _⟩, below2 _ _ _⟩
      · rw [show rState N L K O S Lw vs body.toList.isEmpty = some none from if_neg (fun h => hLw h.2.2.1)]
        subst hO hS
        have hb : (Lw != 0) = true := bne_iff_ne.2 hLw
        clear hLw
        go_enter Tryz.func206, Tryz.ntmps206
        go_wp2_with (go_at_call 227; refine (wireRefuse_any a0 a1 _ _ ((HW.out.alloc _).alloc _)).mono ?_; rintro e w' ⟨rfl, rfl⟩)
        go_ret
        exact ⟨⟨_, rfl, IsF.why a1 _⟩, below2 _ _ _⟩
    · rw [show rState N L K O S Lw vs body.toList.isEmpty = some none from if_neg (fun h => hS h.2.1)]
      subst hO
      have hb : (S != 0) = true := bne_iff_ne.2 hS
      clear hS
      go_enter Tryz.func206, Tryz.ntmps206
      go_wp2_with (go_at_call 227; refine (wireRefuse_any a0 a1 _ _ ((HW.out.alloc _).alloc _)).mono ?_; rintro e w' ⟨rfl, rfl⟩)
      go_ret
      exact ⟨⟨_, rfl, IsF.why a1 _⟩, below2 _ _ _⟩
  · rw [show rState N L K O S Lw vs body.toList.isEmpty = some none from if_neg (fun h => hO h.1)]
    have hb : (O != 0) = true := bne_iff_ne.2 hO
    clear hO
    go_enter Tryz.func206, Tryz.ntmps206
    go_wp2_with (go_at_call 227; refine (wireRefuse_any a0 a1 _ _ ((HW.out.alloc _).alloc _)).mono ?_; rintro e w' ⟨rfl, rfl⟩)
    go_ret
    exact ⟨⟨_, rfl, IsF.why a1 _⟩, below2 _ _ _⟩

theorem bcell {W w1 : World} (hb : Below W.heap.size W w1) : (∀ b o, b < W.heap.size → w1.cell? ⟨b, o, none⟩ = W.cell? ⟨b, o, none⟩) ∧ (∀ b o, b < W.heap.size → w1.frozen? ⟨b, o, none⟩ = W.frozen? ⟨b, o, none⟩) :=
  ⟨fun b o h => hb.cell (p := ⟨b, o, none⟩) h, fun b o h => hb.frozen (p := ⟨b, o, none⟩) h⟩

set_option maxHeartbeats 2000000 in
theorem checkData_any (a0 a1 : Addr) (N W B L K F O S Lw : Int) (ad : Option Addr) (len cap : Nat) (body : ByteArray) (vs : List Int) (w : World) (hw : Sent w a0 a1) (hi : Ints w ad len vs)
    (hG : okG N W B L = true) (hl : len ≤ maxLen) (_hbd : body.size ≤ maxLen) :
    Calls Tryz.prog 207 #[.agg #[.int .i64 N, .int .i64 W, .int .i64 B, .int .i64 L], .agg #[.int .i64 K, .int .i64 F, .int .i64 O, .int .i64 S, .int .i64 Lw, .slice ad len cap, .string body]] w fun e w' => (∃ v, e = .returned v ∧ IsF a1 v (rData N W B L K O S Lw vs body.size)) ∧ Below w.heap.size w w' := by
  have HW : Hid (Sent w a0 a1) := hw
  have HI : Hid (Ints w ad len vs) := hi
  have HG : Hid (okG N W B L = true) := hG
  have HLm : Hid (len ≤ maxLen) := hl
  obtain ⟨h1, h2, h3, h4, h5, h6, h7, h8⟩ := okG_iff.1 hG
  clear hw hi hG hl
  unfold maxLen at _hbd
  by_cases hO : 0 ≤ O ∧ O < N
  · have hOd : decide (0 ≤ O ∧ O < N) = true := decide_eq_true hO
    by_cases hS : S < 1 ∨ L < S
    · rw [show rData N W B L K O S Lw vs body.size = some (some 6) by unfold rData; rw [if_neg (by simpa using hO), if_pos hS]]
      clear hO
      rcases hS with hS | hS
      all_goals
        go_enter Tryz.func207, Tryz.ntmps207
        go_wp2_with fail
        refine (has_any N W B L O _).mono ?_
        rintro e w' ⟨rfl, hb⟩
        have HB : Hid _ := hb
        have hc1 := (bcell hb).1
        clear hb
        rw [hOd]
        go_wp2_with (go_at_call 209; refine (refuseAt_any a0 a1 _ _ _ (((HW.out.alloc _).alloc _).below HB.out)).mono ?_; rintro e w' ⟨rfl, rfl⟩)
        go_ret
        exact ⟨⟨_, rfl, IsF.at a1 _ _⟩, bthen (below2 _ _ _) HB.out⟩
    · have hS1 : 1 ≤ S := by omega
      have hS2 : S ≤ L := by omega
      by_cases hLw : Lw < 0 ∨ S ≤ Lw ∨ Lw < S - W
      · rw [show rData N W B L K O S Lw vs body.size = some (some 8) by unfold rData; rw [if_neg (by simpa using hO), if_neg hS, if_pos hLw]]
        clear hO hS
        rcases hLw with hLw | hLw
        · skip
          go_enter Tryz.func207, Tryz.ntmps207
          go_wp2_with fail
          refine (has_any N W B L O _).mono ?_
          rintro e w' ⟨rfl, hb⟩
          have HB : Hid _ := hb
          have hc1 := (bcell hb).1
          clear hb
          rw [hOd]
          go_wp2_with (go_at_call 209; refine (refuseAt_any a0 a1 _ _ _ (((HW.out.alloc _).alloc _).below HB.out)).mono ?_; rintro e w' ⟨rfl, rfl⟩)
          go_ret
          exact ⟨⟨_, rfl, IsF.at a1 _ _⟩, bthen (below2 _ _ _) HB.out⟩
        · by_cases hL0 : Lw < 0
          · clear hLw
            go_enter Tryz.func207, Tryz.ntmps207
            go_wp2_with fail
            refine (has_any N W B L O _).mono ?_
            rintro e w' ⟨rfl, hb⟩
            have HB : Hid _ := hb
            have hc1 := (bcell hb).1
            clear hb
            rw [hOd]
            go_wp2_with (go_at_call 209; refine (refuseAt_any a0 a1 _ _ _ (((HW.out.alloc _).alloc _).below HB.out)).mono ?_; rintro e w' ⟨rfl, rfl⟩)
            go_ret
            exact ⟨⟨_, rfl, IsF.at a1 _ _⟩, bthen (below2 _ _ _) HB.out⟩
          · rcases hLw with hLw | hLw
            all_goals
              go_enter Tryz.func207, Tryz.ntmps207
              go_wp2_with fail
              refine (has_any N W B L O _).mono ?_
              rintro e w' ⟨rfl, hb⟩
              have HB : Hid _ := hb
              have hc1 := (bcell hb).1
              clear hb
              rw [hOd]
              go_wp2_with (go_at_call 209; refine (refuseAt_any a0 a1 _ _ _ (((HW.out.alloc _).alloc _).below HB.out)).mono ?_; rintro e w' ⟨rfl, rfl⟩)
              go_ret
              exact ⟨⟨_, rfl, IsF.at a1 _ _⟩, bthen (below2 _ _ _) HB.out⟩
      · have hL0 : 0 ≤ Lw := by omega
        have hL1 : Lw < S := by omega
        have hL2 : S - W ≤ Lw := by omega
        have HR : Hid (rData N W B L K O S Lw vs body.size = match rVec N L K O S vs with | some x => some x | none => if B < (body.size : Int) then some (some (10 + 2 * N)) else none) := by
          show rData N W B L K O S Lw vs body.size = _
          unfold rData; rw [if_neg (by simpa using hO), if_neg hS, if_neg hLw]
          cases rVec N L K O S vs <;> rfl
        clear hO hS hLw
        go_enter Tryz.func207, Tryz.ntmps207
        go_wp2_with fail
        refine (has_any N W B L O _).mono ?_
        rintro e w' ⟨rfl, hb⟩
        have HB : Hid _ := hb
        have hc1 := (bcell hb).1
        have hz1 : w.heap.size + 1 < w'.heap.size := by have := hb.size; simp at this; omega
        have hz0 : w.heap.size < w'.heap.size := by omega
        clear hb
        rw [hOd]
        go_wp2_with fail
        refine (checkVector_any a0 a1 N W B L K F O S Lw ad len cap body vs _ (((HW.out.alloc _).alloc _).below HB.out) (((HI.out.alloc _).alloc _).below HB.out) HG.out (by omega) HLm.out).mono ?_
        rintro e w2 ⟨⟨v, rfl, hv⟩, hb2⟩
        have HB2 : Hid _ := hb2
        have hc2 := (bcell hb2).1
        have hy1 : w.heap.size + 1 < w2.heap.size := by have := hb2.size; omega
        have hy0 : w.heap.size < w2.heap.size := by omega
        clear hb2
        cases hr : rVec N L K O S vs with
        | some x =>
          rw [hr] at hv
          have HV : Hid (IsF a1 v (some x)) := hv
          have HRR : Hid (rData N W B L K O S Lw vs body.size = some x) := by have := HR.out; rw [hr] at this; exact this
          obtain ⟨t, y, rfl⟩ := hv.nil_iff.2 x rfl
          clear hv hr HR
          go_wp2
          go_ret
          rw [HRR.out]
          exact ⟨⟨_, rfl, HV.out⟩, bthen (bthen (below2 _ _ _) HB.out) HB2.out⟩
        | none =>
          rw [hr] at hv
          obtain rfl := hv.nil_iff.1 rfl
          have HRR : Hid (rData N W B L K O S Lw vs body.size = if B < (body.size : Int) then some (some (10 + 2 * N)) else none) := by have := HR.out; rw [hr] at this; exact this
          clear hv hr HR
          by_cases hBd : B < (body.size : Int)
          · have HRQ : Hid (rData N W B L K O S Lw vs body.size = some (some (10 + 2 * N))) := by have := HRR.out; rw [if_pos hBd] at this; exact this
            clear HRR
            go_wp2_with fail
            refine (sizeAt_any N W B L h1 h2 _).mono ?_
            rintro e w3 ⟨rfl, hb3⟩
            have HB3 : Hid _ := hb3
            clear hb3
            go_wp2_with (go_at_call 209; refine (refuseAt_any a0 a1 _ _ _ (((((HW.out.alloc _).alloc _).below HB.out).below HB2.out).below HB3.out)).mono ?_; rintro e w' ⟨rfl, rfl⟩)
            go_ret
            rw [HRQ.out]
            exact ⟨⟨_, rfl, IsF.at a1 _ _⟩, bthen (bthen (bthen (below2 _ _ _) HB.out) HB2.out) HB3.out⟩
          · have HRQ : Hid (rData N W B L K O S Lw vs body.size = none) := by have := HRR.out; rw [if_neg hBd] at this; exact this
            clear HRR
            go_wp2
            go_ret
            rw [HRQ.out]
            exact ⟨⟨_, rfl, IsF.nil a1⟩, bthen (bthen (below2 _ _ _) HB.out) HB2.out⟩
  · have hOd : decide (0 ≤ O ∧ O < N) = false := decide_eq_false hO
    rw [show rData N W B L K O S Lw vs body.size = some (some 5) by unfold rData; rw [if_pos hO]]
    clear hO
    go_enter Tryz.func207, Tryz.ntmps207
    go_wp2_with fail
    refine (has_any N W B L O _).mono ?_
    rintro e w' ⟨rfl, hb⟩
    have HB : Hid _ := hb
    have hc1 := (bcell hb).1
    clear hb
    rw [hOd]
    go_wp2_with (go_at_call 209; refine (refuseAt_any a0 a1 _ _ _ (((HW.out.alloc _).alloc _).below HB.out)).mono ?_; rintro e w' ⟨rfl, rfl⟩)
    go_ret
    exact ⟨⟨_, rfl, IsF.at a1 _ _⟩, bthen (below2 _ _ _) HB.out⟩
end Go.Proofs.YtabecbjfamphbaaGreatDoor
