/-
  The reference's Decode, where it refuses.
-/
import Derived.Test.YtabecbjfamphbaaDoorPlace
namespace Go.Proofs.YtabecbjfamphbaaDoor
open Go.RowKit Go.Stop Go.Extern

set_option maxRecDepth 100000 in
set_option maxHeartbeats 2000000 in
theorem refDecode_no (N W B L : Int) (s : ByteArray) (w : World) (hG : okG N W B L = false) :
    Calls Tryd.prog 24 #[.agg #[.int .i64 N, .int .i64 W, .int .i64 B, .int .i64 L], .string s] w
      fun e w' => e = .returned (.tuple #[fz, .int .i64 0, .int .i64 1]) ∧ Below w.heap.size w w' := by
  have HC : Hid (∀ x, Calls Tryd.prog 17 #[.agg #[.int .i64 N, .int .i64 W, .int .i64 B, .int .i64 L]] x fun e w' => e = .returned (.int .i64 1) ∧ Below x.heap.size x w') := fun x => by
    have := refCheck_any N W B L x
    rw [hG] at this
    exact this
  clear hG
  have HP0 : Hid _ := pen_start w N W B L 23 26
  go_enter Tryd.func24, Tryd.ntmps24
  go_wp2_with fail
  refine (HC.out _).mono ?_
  rintro e w1 ⟨rfl, hb⟩
  have HA1 : Hid (Below w.heap.size w w1) := bthen (below2 _ _ _) hb
  have HP1 : Hid (Pen w.heap.size w1 N W B L) := HP0.out.below hb HP0.out.z
  clear hb HP0
  have D := HP1.out
  have fr := D.s.f
  obtain ⟨u0, hu0⟩ := D.s.r 0 (by omega)
  obtain ⟨u1, hu1⟩ := D.s.r 1 (by omega)
  obtain ⟨u2, hu2⟩ := D.s.r 2 (by omega)
  obtain ⟨u3, hu3⟩ := D.s.r 3 (by omega)
  obtain ⟨u4, hu4⟩ := D.s.r 4 (by omega)
  obtain ⟨u5, hu5⟩ := D.s.r 5 (by omega)
  obtain ⟨u6, hu6⟩ := D.s.r 6 (by omega)
  obtain ⟨c0, c1, c2, c3, _, cz⟩ := D
  go_wp2_with fail
  obtain ⟨r0, r1, r2, r3, r4, r5, r6⟩ := Slots.seven HP1.out.s (.int .i64 0) (.int .i64 0) (.int .i64 0) (.int .i64 0) (.int .i64 0) (.slice none 0 0) (.string ⟨#[]⟩) _ rfl
  refine bodyPost_ret (v := .tuple #[fz, .int .i64 0, .int .i64 1]) (by unfold fz; simp [results, Tryd.results24, go_sem, r0, r1, r2, r3, r4, r5, r6]) rfl ⟨rfl, ?_⟩
  exact below_set7 HA1.out (by omega) _ _ _ _ _ _ _

set_option maxRecDepth 100000 in
set_option maxHeartbeats 2000000 in
theorem refDecode_bad (n : Nat) (W B L : Int) (s : ByteArray) (w : World) (hG : okG n W B L = true) (hs : s.size ≤ maxLen) (hat : 0 ≤ refAt n W B L s) :
    Calls Tryd.prog 24 #[.agg #[.int .i64 (n : Int), .int .i64 W, .int .i64 B, .int .i64 L], .string s] w
      fun e w' => e = .returned (.tuple #[fz, .int .i64 (refAt n W B L s), .int .i64 5]) ∧ Below w.heap.size w w' := by
  obtain ⟨h1, h2, h3, h4, -, -, -, -⟩ := okG_iff.1 hG
  have HC : Hid (∀ x, Calls Tryd.prog 17 #[.agg #[.int .i64 (n : Int), .int .i64 W, .int .i64 B, .int .i64 L]] x fun e w' => e = .returned (.int .i64 0) ∧ Below x.heap.size x w') := fun x => by
    have := refCheck_any n W B L x
    rw [hG] at this
    exact this
  have HO : Hid (∀ x, Calls Tryd.prog 42 #[.agg #[.int .i64 (n : Int), .int .i64 W, .int .i64 B, .int .i64 L], .string s] x fun e w' => e = .returned (.int .i64 (outR n s)) ∧ Below x.heap.size x w') := fun x => outer_any n W B L s x (by omega) (by omega) hs
  clear hG
  have HP0 : Hid _ := pen_start w n W B L 23 26
  by_cases co : outR n s < 0
  · have HIn : Hid (∀ x, Calls Tryd.prog 43 #[.agg #[.int .i64 (n : Int), .int .i64 W, .int .i64 B, .int .i64 L], .string s] x fun e w' => e = .returned (.int .i64 (refAt n W B L s)) ∧ Below x.heap.size x w') := fun x => by
      unfold refAt
      rw [if_pos co]
      rcases outR_neg co with ⟨k, hl⟩ | ⟨k, hl⟩
      · rw [if_pos k]
        exact inner_data n W B L s x (by omega) (by omega) h3 h4 hs hl k
      · rw [if_neg (by omega)]
        exact inner_state n W B L s x (by omega) (by omega) hs (by omega) k
    generalize outR n s = p1 at *
    generalize refAt n W B L s = p2 at *
    clear hs
    go_enter Tryd.func24, Tryd.ntmps24
    go_wp2_with fail
    refine (HC.out _).mono ?_
    rintro e w1 ⟨rfl, hb⟩
    have HA1 : Hid (Below w.heap.size w w1) := bthen (below2 _ _ _) hb
    have HP1 : Hid (Pen w.heap.size w1 n W B L) := HP0.out.below hb HP0.out.z
    clear hb HP0
    have D := HP1.out
    have fr := D.s.f
    obtain ⟨u0, hu0⟩ := D.s.r 0 (by omega)
    obtain ⟨u1, hu1⟩ := D.s.r 1 (by omega)
    obtain ⟨u2, hu2⟩ := D.s.r 2 (by omega)
    obtain ⟨u3, hu3⟩ := D.s.r 3 (by omega)
    obtain ⟨u4, hu4⟩ := D.s.r 4 (by omega)
    obtain ⟨u5, hu5⟩ := D.s.r 5 (by omega)
    obtain ⟨u6, hu6⟩ := D.s.r 6 (by omega)
    obtain ⟨c0, c1, c2, c3, _, cz⟩ := D
    go_wp2_with fail
    refine (HO.out _).mono ?_
    rintro e w2 ⟨rfl, hb⟩
    have HA2 : Hid (Below w.heap.size w w2) := bthen HA1.out hb
    have HP2 : Hid (Pen w.heap.size w2 n W B L) := HP1.out.below hb HP1.out.z
    clear hb HP1 HA1
    clear c0 c1 c2 c3 fr hu0 hu1 hu2 hu3 hu4 hu5 hu6 u0 u1 u2 u3 u4 u5 u6 cz
    have D := HP2.out
    have fr := D.s.f
    obtain ⟨u0, hu0⟩ := D.s.r 0 (by omega)
    obtain ⟨u1, hu1⟩ := D.s.r 1 (by omega)
    obtain ⟨u2, hu2⟩ := D.s.r 2 (by omega)
    obtain ⟨u3, hu3⟩ := D.s.r 3 (by omega)
    obtain ⟨u4, hu4⟩ := D.s.r 4 (by omega)
    obtain ⟨u5, hu5⟩ := D.s.r 5 (by omega)
    obtain ⟨u6, hu6⟩ := D.s.r 6 (by omega)
    obtain ⟨c0, c1, c2, c3, _, cz⟩ := D
    go_wp2_with fail
    refine (HIn.out _).mono ?_
    rintro e w3 ⟨rfl, hb⟩
    have HA3 : Hid (Below w.heap.size w w3) := bthen HA2.out hb
    have HP3 : Hid (Pen w.heap.size w3 n W B L) := HP2.out.below hb HP2.out.z
    clear hb HP2 HA2
    clear c0 c1 c2 c3 fr hu0 hu1 hu2 hu3 hu4 hu5 hu6 u0 u1 u2 u3 u4 u5 u6 cz
    have D := HP3.out
    have fr := D.s.f
    obtain ⟨u0, hu0⟩ := D.s.r 0 (by omega)
    obtain ⟨u1, hu1⟩ := D.s.r 1 (by omega)
    obtain ⟨u2, hu2⟩ := D.s.r 2 (by omega)
    obtain ⟨u3, hu3⟩ := D.s.r 3 (by omega)
    obtain ⟨u4, hu4⟩ := D.s.r 4 (by omega)
    obtain ⟨u5, hu5⟩ := D.s.r 5 (by omega)
    obtain ⟨u6, hu6⟩ := D.s.r 6 (by omega)
    obtain ⟨c0, c1, c2, c3, _, cz⟩ := D
    go_wp2_with fail
    obtain ⟨r0, r1, r2, r3, r4, r5, r6⟩ := Slots.seven HP3.out.s (.int .i64 0) (.int .i64 0) (.int .i64 0) (.int .i64 0) (.int .i64 0) (.slice none 0 0) (.string ⟨#[]⟩) _ rfl
    refine bodyPost_ret (v := .tuple #[fz, .int .i64 p2, .int .i64 5]) (by unfold fz; simp [results, Tryd.results24, go_sem, r0, r1, r2, r3, r4, r5, r6]) rfl ⟨rfl, ?_⟩
    exact below_set7 HA3.out (by omega) _ _ _ _ _ _ _
  · have HRA : Hid (refAt n W B L s = outR n s) := if_neg co
    have co' : 0 ≤ outR n s := by omega
    clear hat co
    generalize outR n s = p1 at *
    clear hs
    go_enter Tryd.func24, Tryd.ntmps24
    go_wp2_with fail
    refine (HC.out _).mono ?_
    rintro e w1 ⟨rfl, hb⟩
    have HA1 : Hid (Below w.heap.size w w1) := bthen (below2 _ _ _) hb
    have HP1 : Hid (Pen w.heap.size w1 n W B L) := HP0.out.below hb HP0.out.z
    clear hb HP0
    have D := HP1.out
    have fr := D.s.f
    obtain ⟨u0, hu0⟩ := D.s.r 0 (by omega)
    obtain ⟨u1, hu1⟩ := D.s.r 1 (by omega)
    obtain ⟨u2, hu2⟩ := D.s.r 2 (by omega)
    obtain ⟨u3, hu3⟩ := D.s.r 3 (by omega)
    obtain ⟨u4, hu4⟩ := D.s.r 4 (by omega)
    obtain ⟨u5, hu5⟩ := D.s.r 5 (by omega)
    obtain ⟨u6, hu6⟩ := D.s.r 6 (by omega)
    obtain ⟨c0, c1, c2, c3, _, cz⟩ := D
    go_wp2_with fail
    refine (HO.out _).mono ?_
    rintro e w2 ⟨rfl, hb⟩
    have HA2 : Hid (Below w.heap.size w w2) := bthen HA1.out hb
    have HP2 : Hid (Pen w.heap.size w2 n W B L) := HP1.out.below hb HP1.out.z
    clear hb HP1 HA1
    clear c0 c1 c2 c3 fr hu0 hu1 hu2 hu3 hu4 hu5 hu6 u0 u1 u2 u3 u4 u5 u6 cz
    have D := HP2.out
    have fr := D.s.f
    obtain ⟨u0, hu0⟩ := D.s.r 0 (by omega)
    obtain ⟨u1, hu1⟩ := D.s.r 1 (by omega)
    obtain ⟨u2, hu2⟩ := D.s.r 2 (by omega)
    obtain ⟨u3, hu3⟩ := D.s.r 3 (by omega)
    obtain ⟨u4, hu4⟩ := D.s.r 4 (by omega)
    obtain ⟨u5, hu5⟩ := D.s.r 5 (by omega)
    obtain ⟨u6, hu6⟩ := D.s.r 6 (by omega)
    obtain ⟨c0, c1, c2, c3, _, cz⟩ := D
    go_wp2_with fail
    obtain ⟨r0, r1, r2, r3, r4, r5, r6⟩ := Slots.seven HP2.out.s (.int .i64 0) (.int .i64 0) (.int .i64 0) (.int .i64 0) (.int .i64 0) (.slice none 0 0) (.string ⟨#[]⟩) _ rfl
    refine bodyPost_ret (v := .tuple #[fz, .int .i64 p1, .int .i64 5]) (by unfold fz; simp [results, Tryd.results24, go_sem, r0, r1, r2, r3, r4, r5, r6]) rfl ⟨by rw [HRA.out], ?_⟩
    exact below_set7 HA2.out (by omega) _ _ _ _ _ _ _
end Go.Proofs.YtabecbjfamphbaaDoor
