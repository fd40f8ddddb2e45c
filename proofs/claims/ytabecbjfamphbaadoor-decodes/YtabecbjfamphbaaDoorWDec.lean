/-
  wire.Decode.
-/
import Derived.Test.YtabecbjfamphbaaDoorRd
namespace Go.Proofs.YtabecbjfamphbaaDoor
open Go.RowKit Go.Stop Go.Extern

/-- The frame that holds nothing. -/
def fz : Value := .agg #[.int .i64 0, .int .i64 0, .int .i64 0, .int .i64 0, .int .i64 0, .slice none 0 0, .string ⟨#[]⟩]
/-- P6: where a text is wrong. -/
def rAll (n : Nat) (W B L : Int) (s : ByteArray) : Option (Option Int) :=
  match rSeal n s with
  | some x => some x
  | none => rRead n W B L s
/-- P6: what a text that is right holds. -/
def Read (w' : World) (base n : Nat) (s : ByteArray) (fv : Value) : Prop :=
  (byt s 2 = 2 ∧ Got w' base n 2 (byt s 4) 0 0 0 (vecOf s 5 n) ⟨#[]⟩ fv) ∨ (byt s 2 = 1 ∧ Got w' base n 1 (byt s 4) (byt s 5) (val s 6 2) (val s 8 2) (vecOf s 10 n) (s.extract (11 + 2 * n) (s.size - 4)) fv)

/-- The group, and where the answer goes. -/
structure Pen (z : Nat) (x : World) (N W B L : Int) : Prop where
  c0 : x.cell? ⟨z, 0, none⟩ = some (.int .i64 N)
  c1 : x.cell? ⟨z, 1, none⟩ = some (.int .i64 W)
  c2 : x.cell? ⟨z, 2, none⟩ = some (.int .i64 B)
  c3 : x.cell? ⟨z, 3, none⟩ = some (.int .i64 L)
  s : Slots (z + 1) x
  z : z + 1 < x.heap.size
theorem Pen.below {z : Nat} {x y : World} {N W B L : Int} (h : Pen z x N W B L) {c : Nat} (hb : Below c x y) (hz : z + 1 < c) : Pen z y N W B L := by
  have e : ∀ (b : Nat) (i : Nat), b < c → y.cell? ⟨b, i, none⟩ = x.cell? ⟨b, i, none⟩ := fun b i hlt => hb.cell (p := ⟨b, i, none⟩) hlt
  obtain ⟨k0, k1, k2, k3, hs, hz'⟩ := h
  have hz0 : z < c := by omega
  exact ⟨(e _ _ hz0).trans k0, (e _ _ hz0).trans k1, (e _ _ hz0).trans k2, (e _ _ hz0).trans k3, hs.below hb (by omega), Nat.lt_of_lt_of_le hz' hb.size⟩
theorem pen_start (w : World) (N W B L : Int) (tc tr : TypeId) :
    Pen w.heap.size ((w.alloc (.cells #[.int .i64 N, .int .i64 W, .int .i64 B, .int .i64 L] tc)).alloc (.cells #[.int .i64 0, .int .i64 0, .int .i64 0, .int .i64 0, .int .i64 0, .slice none 0 0, .string { data := #[] }] tr)) N W B L := by
  refine ⟨?_, ?_, ?_, ?_, ?_, ?_⟩
  case refine_5 =>
    have := slots_alloc (w.alloc (.cells #[.int .i64 N, .int .i64 W, .int .i64 B, .int .i64 L] tc)) #[.int .i64 0, .int .i64 0, .int .i64 0, .int .i64 0, .int .i64 0, .slice none 0 0, .string { data := #[] }] tr rfl
    simp at this
    exact this
  all_goals go_simp

theorem Slots.seven_alloc {b : Nat} {x : World} (h : Slots b x) (v0 v1 v2 v3 v4 v5 v6 : Value) (o : Obj) (X : World)
    (hX : X = (((((((x.setCell ⟨b, 0, none⟩ v0).setCell ⟨b, 1, none⟩ v1).setCell ⟨b, 2, none⟩ v2).setCell ⟨b, 3, none⟩ v3).setCell ⟨b, 4, none⟩ v4).setCell ⟨b, 5, none⟩ v5).setCell ⟨b, 6, none⟩ v6).alloc o) :
    X.cell? ⟨b, 0, none⟩ = some v0 ∧ X.cell? ⟨b, 1, none⟩ = some v1 ∧ X.cell? ⟨b, 2, none⟩ = some v2 ∧ X.cell? ⟨b, 3, none⟩ = some v3 ∧ X.cell? ⟨b, 4, none⟩ = some v4 ∧ X.cell? ⟨b, 5, none⟩ = some v5 ∧ X.cell? ⟨b, 6, none⟩ = some v6 := by
  obtain ⟨r0, r1, r2, r3, r4, r5, r6⟩ := Slots.seven h v0 v1 v2 v3 v4 v5 v6 _ rfl
  have hz : b < (((((((x.setCell ⟨b, 0, none⟩ v0).setCell ⟨b, 1, none⟩ v1).setCell ⟨b, 2, none⟩ v2).setCell ⟨b, 3, none⟩ v3).setCell ⟨b, 4, none⟩ v4).setCell ⟨b, 5, none⟩ v5).setCell ⟨b, 6, none⟩ v6).heap.size := by simpa [World.setCell] using h.z
  generalize (((((((x.setCell ⟨b, 0, none⟩ v0).setCell ⟨b, 1, none⟩ v1).setCell ⟨b, 2, none⟩ v2).setCell ⟨b, 3, none⟩ v3).setCell ⟨b, 4, none⟩ v4).setCell ⟨b, 5, none⟩ v5).setCell ⟨b, 6, none⟩ v6) = Y at *
  subst hX
  have e : ∀ i, (Y.alloc o).cell? ⟨b, i, none⟩ = Y.cell? ⟨b, i, none⟩ := fun i => ((Below.refl Y.heap.size Y).alloc (Nat.le_refl _) o).cell (p := ⟨b, i, none⟩) hz
  exact ⟨(e 0).trans r0, (e 1).trans r1, (e 2).trans r2, (e 3).trans r3, (e 4).trans r4, (e 5).trans r5, (e 6).trans r6⟩

set_option maxRecDepth 100000 in
set_option maxHeartbeats 2000000 in
theorem wireDecode_no (a0 a1 : Addr) (N W B L : Int) (s : ByteArray) (w : World) (hw : Sent w a0 a1) (hG : okG N W B L = false) :
    Calls Tryd.prog 35 #[.agg #[.int .i64 N, .int .i64 W, .int .i64 B, .int .i64 L], .string s] w
      fun e w' => (∃ t, e = .returned (.tuple #[fz, .iface 117 (.agg #[.string t, .iface 137 (.pointer (some a0))])])) ∧ Below w.heap.size w w' := by
  have HW : Hid (Sent w a0 a1) := hw
  have HG : Hid (okG N W B L = false) := hG
  clear hw hG
  have HP0 : Hid _ := pen_start w N W B L 23 26
  go_enter Tryd.func35, Tryd.ntmps35
  go_wp2_with fail
  refine (groupCheck_no a0 a1 N W B L _ ((HW.out.alloc _).alloc _) HG.out).mono ?_
  rintro e w1 ⟨⟨t, rfl⟩, hb⟩
  have HA1 : Hid (Below w.heap.size w w1) := bthen (below2 _ _ _) hb
  have HP1 : Hid (Pen w.heap.size w1 N W B L) := HP0.out.below hb HP0.out.z
  clear hb HP0
  have D := HP1.out
  have fr := D.s.f
  obtain ⟨u0, hu0⟩ := D.s.r 0 (by omega)
  obtain ⟨u1, hu1⟩ := D.s.r 1 (by omega)
  obtain ⟨u2, hu2⟩ := D.s.r 2 (by omega)
  obtain ⟨u3, hu3⟩ := D.s.r 3 (by omega)
  obtain ⟨u4, hu4⟩ := D.s.r 4 (by omega)
  obtain ⟨u5, hu5⟩ := D.s.r 5 (by omega)
  obtain ⟨u6, hu6⟩ := D.s.r 6 (by omega)
  obtain ⟨c0, c1, c2, c3, _, cz⟩ := D
  go_wp2_with fail
  obtain ⟨r0, r1, r2, r3, r4, r5, r6⟩ := Slots.seven HP1.out.s (.int .i64 0) (.int .i64 0) (.int .i64 0) (.int .i64 0) (.int .i64 0) (.slice none 0 0) (.string ⟨#[]⟩) _ rfl
  refine bodyPost_ret (v := .tuple #[fz, .iface 117 (.agg #[.string t, .iface 137 (.pointer (some a0))])]) (by unfold fz; simp [results, Tryd.results35, go_sem, r0, r1, r2, r3, r4, r5, r6]) rfl ⟨⟨_, rfl⟩, ?_⟩
  exact below_set7 HA1.out (by omega) _ _ _ _ _ _ _

set_option maxRecDepth 100000 in
set_option maxHeartbeats 2000000 in
theorem wireDecode_yes (a0 a1 : Addr) (n : Nat) (W B L : Int) (s : ByteArray) (w : World) (hw : Sent w a0 a1) (hG : okG n W B L = true) (hs : s.size ≤ maxLen) :
    Calls Tryd.prog 35 #[.agg #[.int .i64 (n : Int), .int .i64 W, .int .i64 B, .int .i64 L], .string s] w
      fun e w' => (∃ fv v, e = .returned (.tuple #[fv, v]) ∧ FrV fv ∧ IsF a1 v (rAll n W B L s) ∧ (∀ x, rAll n W B L s = some x → fv = fz) ∧ (rAll n W B L s = none → Read w' w.heap.size n s fv)) ∧ Below w.heap.size w w' := by
  have HW : Hid (Sent w a0 a1) := hw
  have HG : Hid (okG n W B L = true) := hG
  have HS : Hid (s.size ≤ maxLen) := hs
  obtain ⟨h1, h2, -, -, -, -, -, -⟩ := okG_iff.1 hG
  clear hw hG hs
  have HP0 : Hid _ := pen_start w n W B L 23 26
  go_enter Tryd.func35, Tryd.ntmps35
  go_wp2_with fail
  refine (groupCheck_yes n W B L _ HG.out).mono ?_
  rintro e w1 ⟨rfl, hb⟩
  have HA1 : Hid (Below w.heap.size w w1) := bthen (below2 _ _ _) hb
  have HP1 : Hid (Pen w.heap.size w1 n W B L) := HP0.out.below hb HP0.out.z
  clear hb HP0
  have D := HP1.out
  have fr := D.s.f
  obtain ⟨u0, hu0⟩ := D.s.r 0 (by omega)
  obtain ⟨u1, hu1⟩ := D.s.r 1 (by omega)
  obtain ⟨u2, hu2⟩ := D.s.r 2 (by omega)
  obtain ⟨u3, hu3⟩ := D.s.r 3 (by omega)
  obtain ⟨u4, hu4⟩ := D.s.r 4 (by omega)
  obtain ⟨u5, hu5⟩ := D.s.r 5 (by omega)
  obtain ⟨u6, hu6⟩ := D.s.r 6 (by omega)
  obtain ⟨c0, c1, c2, c3, _, cz⟩ := D
  go_wp2_with fail
  refine (checkSeal_any a0 a1 n W B L s w1 (HW.out.below HA1.out) h1 h2 HS.out).mono ?_
  rintro e w2 ⟨⟨v, rfl, hv⟩, hb⟩
  have HA2 : Hid (Below w.heap.size w w2) := bthen HA1.out hb
  have HP2 : Hid (Pen w.heap.size w2 n W B L) := HP1.out.below hb HP1.out.z
  clear hb HP1 HA1
  clear c0 c1 c2 c3 fr hu0 hu1 hu2 hu3 hu4 hu5 hu6 u0 u1 u2 u3 u4 u5 u6 cz
  have D := HP2.out
  have fr := D.s.f
  obtain ⟨u0, hu0⟩ := D.s.r 0 (by omega)
  obtain ⟨u1, hu1⟩ := D.s.r 1 (by omega)
  obtain ⟨u2, hu2⟩ := D.s.r 2 (by omega)
  obtain ⟨u3, hu3⟩ := D.s.r 3 (by omega)
  obtain ⟨u4, hu4⟩ := D.s.r 4 (by omega)
  obtain ⟨u5, hu5⟩ := D.s.r 5 (by omega)
  obtain ⟨u6, hu6⟩ := D.s.r 6 (by omega)
  obtain ⟨c0, c1, c2, c3, _, cz⟩ := D
  cases hr : rSeal n s with
  | some x =>
    rw [hr] at hv
    have HV : Hid (IsF a1 v (some x)) := hv
    have HRR : Hid (rAll n W B L s = some x) := by show rAll n W B L s = _; unfold rAll; rw [hr]
    obtain ⟨t, y, rfl⟩ := hv.nil_iff.2 x rfl
    clear hv hr
    go_wp2_with fail
    obtain ⟨r0, r1, r2, r3, r4, r5, r6⟩ := Slots.seven HP2.out.s (.int .i64 0) (.int .i64 0) (.int .i64 0) (.int .i64 0) (.int .i64 0) (.slice none 0 0) (.string ⟨#[]⟩) _ rfl
    refine bodyPost_ret (v := .tuple #[fz, .iface t y]) (by unfold fz; simp [results, Tryd.results35, go_sem, r0, r1, r2, r3, r4, r5, r6]) rfl ⟨⟨_, _, rfl, ⟨_, _, _, _, _, _, _, _, _, rfl⟩, ?_, fun _ _ => rfl, ?_⟩, ?_⟩
    · rw [HRR.out]; exact HV.out
    · intro h; rw [HRR.out] at h; cases h
    · exact below_set7 HA2.out (by omega) _ _ _ _ _ _ _
  | none =>
    rw [hr] at hv
    obtain rfl := hv.nil_iff.1 rfl
    have HL : Hid (9 + 2 * n ≤ s.size) := by
      show 9 + 2 * n ≤ s.size
      unfold rSeal at hr
      by_cases h : (s.size : Int) < 9 + 2 * (n : Int)
      · rw [if_pos h] at hr; cases hr
      · omega
    have HRA : Hid (rAll n W B L s = rRead n W B L s) := by show rAll n W B L s = _; unfold rAll; rw [hr]
    clear hv hr
    go_wp2_with fail
    refine (read_any a0 a1 n W B L s w2 (HW.out.below HA2.out) HG.out HS.out HL.out).mono ?_
    rintro e w3 ⟨⟨fv, v, rfl, hfv, hv, hgot⟩, hb⟩
    obtain ⟨K', F', O', S', L', ad, len, cap, bd, rfl⟩ := hfv
    have HGot : Hid (rRead n W B L s = none → Read w3 w2.heap.size n s _) := hgot
    have HA3 : Hid (Below w.heap.size w w3) := bthen HA2.out hb
    have HP3 : Hid (Pen w.heap.size w3 n W B L) := HP2.out.below hb HP2.out.z
    have hz23 := hb.size
    clear hgot hb
    clear c0 c1 c2 c3 fr hu0 hu1 hu2 hu3 hu4 hu5 hu6 u0 u1 u2 u3 u4 u5 u6 cz
    have D := HP3.out
    have fr := D.s.f
    obtain ⟨u0, hu0⟩ := D.s.r 0 (by omega)
    obtain ⟨u1, hu1⟩ := D.s.r 1 (by omega)
    obtain ⟨u2, hu2⟩ := D.s.r 2 (by omega)
    obtain ⟨u3, hu3⟩ := D.s.r 3 (by omega)
    obtain ⟨u4, hu4⟩ := D.s.r 4 (by omega)
    obtain ⟨u5, hu5⟩ := D.s.r 5 (by omega)
    obtain ⟨u6, hu6⟩ := D.s.r 6 (by omega)
    obtain ⟨c0, c1, c2, c3, _, cz⟩ := D
    cases hr : rRead n W B L s with
    | some x =>
      rw [hr] at hv
      have HV : Hid (IsF a1 v (some x)) := hv
      have HRR : Hid (rAll n W B L s = some x) := HRA.out.trans hr
      obtain ⟨t, y, rfl⟩ := hv.nil_iff.2 x rfl
      clear hv hr
      go_wp2_with fail
      obtain ⟨r0, r1, r2, r3, r4, r5, r6⟩ := Slots.seven_alloc HP3.out.s (.int .i64 0) (.int .i64 0) (.int .i64 0) (.int .i64 0) (.int .i64 0) (.slice none 0 0) (.string ⟨#[]⟩) (.cells #[.int .i64 K', .int .i64 F', .int .i64 O', .int .i64 S', .int .i64 L', .slice ad len cap, .string bd] 26) _ rfl
      refine bodyPost_ret (v := .tuple #[fz, .iface t y]) (by unfold fz; simp [results, Tryd.results35, go_sem, r0, r1, r2, r3, r4, r5, r6]) rfl ⟨⟨_, _, rfl, ⟨_, _, _, _, _, _, _, _, _, rfl⟩, ?_, fun _ _ => rfl, ?_⟩, ?_⟩
      · rw [HRR.out]; exact HV.out
      · intro h; rw [HRR.out] at h; cases h
      · exact bthen (below_set7 HA3.out (by omega) _ _ _ _ _ _ _) ((Below.refl _ _).alloc (Nat.le_refl _) _)
    | none =>
      rw [hr] at hv
      obtain rfl := hv.nil_iff.1 rfl
      have HRR : Hid (rAll n W B L s = none) := HRA.out.trans hr
      have HRd : Hid (rRead n W B L s = none) := hr
      clear hv hr
      go_wp2_with fail
      obtain ⟨r0, r1, r2, r3, r4, r5, r6⟩ := Slots.seven_alloc HP3.out.s (.int .i64 K') (.int .i64 F') (.int .i64 O') (.int .i64 S') (.int .i64 L') (.slice ad len cap) (.string bd) (.cells #[.int .i64 K', .int .i64 F', .int .i64 O', .int .i64 S', .int .i64 L', .slice ad len cap, .string bd] 26) _ rfl
      refine bodyPost_ret (v := .tuple #[.agg #[.int .i64 K', .int .i64 F', .int .i64 O', .int .i64 S', .int .i64 L', .slice ad len cap, .string bd], .nilIface]) (by simp [results, Tryd.results35, go_sem, r0, r1, r2, r3, r4, r5, r6]) rfl ⟨⟨_, _, rfl, ⟨_, _, _, _, _, _, _, _, _, rfl⟩, ?_, ?_, ?_⟩, ?_⟩
      · rw [HRR.out]; exact IsF.nil a1
      · intro x h; rw [HRR.out] at h; cases h
      · intro _
        have hz2 := HP2.out.z
        rcases HGot.out HRd.out with ⟨h, ⟨⟨g, hg, hfe, hrow⟩⟩⟩ | ⟨h, ⟨⟨g, hg, hfe, hrow⟩⟩⟩
        · exact Or.inl ⟨h, ⟨⟨g, by omega, hfe, (hrow.set7 (by omega) _ _ _ _ _ _ _).below ((Below.refl _ _).alloc (Nat.le_refl _) _) (hrow.set7 (by omega) _ _ _ _ _ _ _).lt⟩⟩⟩
        · exact Or.inr ⟨h, ⟨⟨g, by omega, hfe, (hrow.set7 (by omega) _ _ _ _ _ _ _).below ((Below.refl _ _).alloc (Nat.le_refl _) _) (hrow.set7 (by omega) _ _ _ _ _ _ _).lt⟩⟩⟩
      · exact bthen (below_set7 HA3.out (by omega) _ _ _ _ _ _ _) ((Below.refl _ _).alloc (Nat.le_refl _) _)
end Go.Proofs.YtabecbjfamphbaaDoor
