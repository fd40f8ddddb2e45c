/-
  Texts that the proofs of this seat share, joined: Rd.
-/
import Derived.Test.YtabecbjfamphbaaGreatDoorB22
import Derived.BigRegion
/- read: the kind, the group's size, who sent; then the rest. -/
namespace Go.Proofs.YtabecbjfamphbaaGreatDoor
open Go.RowKit Go.Stop Go.Extern

def rRead (n : Nat) (W B L : Int) (s : ByteArray) : Option (Option Int) :=
  match rKind (byt s 2) with
  | some x => some x
  | none => if byt s 3 = n then
      match rFrom n (byt s 4) with
      | some x => some x
      | none => if (byt s 2 : Int) = 2 then rState2 n L s else rData2 n W B L s
    else some (some 3)

/-- Seven cells in a block that may be written. -/
structure Slots (b : Nat) (x : World) : Prop where
  r : ∀ i, i < 7 → ∃ v, x.cell? ⟨b, i, none⟩ = some v
  f : ∀ i, x.frozen? ⟨b, i, none⟩ = false
  z : b < x.heap.size
theorem Slots.below {b : Nat} {x y : World} (h : Slots b x) {c : Nat} (hb : Below c x y) (hz : b < c) : Slots b y :=
  ⟨fun i hi => by obtain ⟨v, hv⟩ := h.r i hi; exact ⟨v, (hb.cell (p := ⟨b, i, none⟩) hz).trans hv⟩, fun i => (hb.frozen (p := ⟨b, i, none⟩) hz).trans (h.f i), Nat.lt_of_lt_of_le h.z hb.size⟩
theorem Slots.seven {b : Nat} {x : World} (h : Slots b x) (v0 v1 v2 v3 v4 v5 v6 : Value) (X : World)
    (hX : X = (((((((x.setCell ⟨b, 0, none⟩ v0).setCell ⟨b, 1, none⟩ v1).setCell ⟨b, 2, none⟩ v2).setCell ⟨b, 3, none⟩ v3).setCell ⟨b, 4, none⟩ v4).setCell ⟨b, 5, none⟩ v5).setCell ⟨b, 6, none⟩ v6)) :
    X.cell? ⟨b, 0, none⟩ = some v0 ∧ X.cell? ⟨b, 1, none⟩ = some v1 ∧ X.cell? ⟨b, 2, none⟩ = some v2 ∧ X.cell? ⟨b, 3, none⟩ = some v3 ∧ X.cell? ⟨b, 4, none⟩ = some v4 ∧ X.cell? ⟨b, 5, none⟩ = some v5 ∧ X.cell? ⟨b, 6, none⟩ = some v6 := by
  obtain ⟨u0, h0⟩ := h.r 0 (by omega)
  obtain ⟨u1, h1⟩ := h.r 1 (by omega)
  obtain ⟨u2, h2⟩ := h.r 2 (by omega)
  obtain ⟨u3, h3⟩ := h.r 3 (by omega)
  obtain ⟨u4, h4⟩ := h.r 4 (by omega)
  obtain ⟨u5, h5⟩ := h.r 5 (by omega)
  obtain ⟨u6, h6⟩ := h.r 6 (by omega)
  subst hX
  refine ⟨?_, ?_, ?_, ?_, ?_, ?_, ?_⟩ <;> go_simp
theorem slots_alloc (w : World) (r : Array Value) (t : TypeId) (hr : r.size = 7) : Slots w.heap.size (w.alloc (.cells r t)) := by
  refine ⟨fun i hi => ⟨r[i]'(by omega), ?_⟩, fun i => ?_, by simp⟩
  · rw [cell_of_row _ _ i r t (0, 0) (heap_alloc_new _ _)]
    exact Array.getElem?_eq_getElem _
  · exact frozen_of_row _ _ i r t (heap_alloc_new _ _)
/-- What read has at hand behind its first line. -/
structure Desk (z : Nat) (x : World) (N W B L K F : Int) : Prop where
  c0 : x.cell? ⟨z, 0, none⟩ = some (.int .i64 N)
  c1 : x.cell? ⟨z, 1, none⟩ = some (.int .i64 W)
  c2 : x.cell? ⟨z, 2, none⟩ = some (.int .i64 B)
  c3 : x.cell? ⟨z, 3, none⟩ = some (.int .i64 L)
  f0 : x.cell? ⟨z + 1 + 1, 0, none⟩ = some (.int .i64 K)
  f1 : x.cell? ⟨z + 1 + 1, 1, none⟩ = some (.int .i64 F)
  f2 : x.cell? ⟨z + 1 + 1, 2, none⟩ = some (.int .i64 0)
  f3 : x.cell? ⟨z + 1 + 1, 3, none⟩ = some (.int .i64 0)
  f4 : x.cell? ⟨z + 1 + 1, 4, none⟩ = some (.int .i64 0)
  f5 : x.cell? ⟨z + 1 + 1, 5, none⟩ = some (.slice none 0 0)
  f6 : x.cell? ⟨z + 1 + 1, 6, none⟩ = some (.string ⟨#[]⟩)
  s : Slots (z + 1) x
  z : z + 1 + 1 < x.heap.size
theorem Desk.below {z : Nat} {x y : World} {N W B L K F : Int} (h : Desk z x N W B L K F) {c : Nat} (hb : Below c x y) (hz : z + 1 + 1 < c) : Desk z y N W B L K F := by
  have e : ∀ (b : Nat) (i : Nat), b < c → y.cell? ⟨b, i, none⟩ = x.cell? ⟨b, i, none⟩ := fun b i hlt => hb.cell (p := ⟨b, i, none⟩) hlt
  obtain ⟨k0, k1, k2, k3, g0, g1, g2, g3, g4, g5, g6, hs, hz'⟩ := h
  have hz0 : z < c := by omega
  refine ⟨(e _ _ hz0).trans k0, (e _ _ hz0).trans k1, (e _ _ hz0).trans k2, (e _ _ hz0).trans k3, (e _ _ hz).trans g0, (e _ _ hz).trans g1, (e _ _ hz).trans g2, (e _ _ hz).trans g3, (e _ _ hz).trans g4, (e _ _ hz).trans g5, (e _ _ hz).trans g6, hs.below hb (by omega), Nat.lt_of_lt_of_le hz' hb.size⟩
theorem desk_start (w : World) (N W B L K F : Int) (tc tf tr : TypeId) :
    Desk w.heap.size (((w.alloc (.cells #[.int .i64 N, .int .i64 W, .int .i64 B, .int .i64 L] tc)).alloc (.cells #[.int .i64 0, .int .i64 0, .int .i64 0, .int .i64 0, .int .i64 0, .slice none 0 0, .string { data := #[] }] tr)).alloc (.cells #[.int .i64 K, .int .i64 F, .int .i64 0, .int .i64 0, .int .i64 0, .slice none 0 0, .string { data := #[] }] tf)) N W B L K F := by
  refine ⟨?_, ?_, ?_, ?_, ?_, ?_, ?_, ?_, ?_, ?_, ?_, ?_, ?_⟩
  case refine_12 =>
    have := slots_alloc (w.alloc (.cells #[.int .i64 N, .int .i64 W, .int .i64 B, .int .i64 L] tc)) #[.int .i64 0, .int .i64 0, .int .i64 0, .int .i64 0, .int .i64 0, .slice none 0 0, .string { data := #[] }] tr rfl
    simp at this
    exact this.below (c := w.heap.size + 1 + 1) ((Below.refl _ _).alloc (by simp) _) (by omega)
  all_goals go_simp

set_option maxRecDepth 100000 in
set_option maxHeartbeats 2000000 in
theorem read_any (a0 a1 : Addr) (n : Nat) (W B L : Int) (s : ByteArray) (w : World) (hw : Sent w a0 a1) (hG : okG n W B L = true) (hs : s.size ≤ maxLen) (hl : 9 + 2 * n ≤ s.size) :
    Calls Tryz.prog 185 #[.agg #[.int .i64 (n : Int), .int .i64 W, .int .i64 B, .int .i64 L], .string s] w
      fun e w' => (∃ fv v, e = .returned (.tuple #[fv, v]) ∧ FrV fv ∧ IsF a1 v (rRead n W B L s) ∧ (rRead n W B L s = none →
        (byt s 2 = 2 ∧ Got w' w.heap.size n 2 (byt s 4) 0 0 0 (vecOf s 5 n) ⟨#[]⟩ fv) ∨ (byt s 2 = 1 ∧ Got w' w.heap.size n 1 (byt s 4) (byt s 5) (val s 6 2) (val s 8 2) (vecOf s 10 n) (s.extract (11 + 2 * n) (s.size - 4)) fv))) ∧ Below w.heap.size w w' := by
  have HW : Hid (Sent w a0 a1) := hw
  have HS : Hid (s.size ≤ maxLen) := hs
  have HG : Hid (okG n W B L = true) := hG
  have HL : Hid (9 + 2 * n ≤ s.size) := hl
  obtain ⟨h1, h2, h3, h4, h5, h6, h7, h8⟩ := okG_iff.1 hG
  unfold maxLen at hs
  clear hw hG
  have hi2 : 2 < s.size := by omega
  have hi3 : 3 < s.size := by omega
  have hi4 : 4 < s.size := by omega
  have hi2i : (2 : Int) < s.size := by omega
  have hi3i : (3 : Int) < s.size := by omega
  have hi4i : (4 : Int) < s.size := by omega
  have H2 : Hid (byt s 2 = s[2].toNat) := byt_eq s 2 hi2
  have H3 : Hid (byt s 3 = s[3].toNat) := byt_eq s 3 hi3
  have H4 : Hid (byt s 4 = s[4].toNat) := byt_eq s 4 hi4
  have hb2 := s[2].toNat_lt
  have hb3 := s[3].toNat_lt
  have hb4 := s[4].toNat_lt
  go_enter Tryz.func185, Tryz.ntmps185
  go_wp2_with fail
  go_region
  generalize s[2].toNat = k2 at *
  generalize s[4].toNat = k4 at *
  have hd0 := desk_start w n W B L k2 k4 26 45 45
  have hdb : Below w.heap.size w (((w.alloc (.cells #[.int .i64 (n : Int), .int .i64 W, .int .i64 B, .int .i64 L] 26)).alloc (.cells #[.int .i64 0, .int .i64 0, .int .i64 0, .int .i64 0, .int .i64 0, .slice none 0 0, .string { data := #[] }] 45)).alloc (.cells #[.int .i64 (k2 : Int), .int .i64 (k4 : Int), .int .i64 0, .int .i64 0, .int .i64 0, .slice none 0 0, .string { data := #[] }] 45)) := (below2 _ _ _).alloc (by simp; omega) _
  generalize (((w.alloc (.cells #[.int .i64 (n : Int), .int .i64 W, .int .i64 B, .int .i64 L] 26)).alloc (.cells #[.int .i64 0, .int .i64 0, .int .i64 0, .int .i64 0, .int .i64 0, .slice none 0 0, .string { data := #[] }] 45)).alloc (.cells #[.int .i64 (k2 : Int), .int .i64 (k4 : Int), .int .i64 0, .int .i64 0, .int .i64 0, .slice none 0 0, .string { data := #[] }] 45)) = X0 at *
  have HD1 : Hid (Desk w.heap.size X0.drew n W B L k2 k4) := hd0.below (c := X0.heap.size) (Below.refl _ _).drew hd0.z
  have HA1 : Hid (Below w.heap.size w X0.drew) := hdb.drew
  generalize X0.drew = w1 at *
  clear hd0 hdb
  have D := HD1.out
  have fr := D.s.f
  obtain ⟨u0, hu0⟩ := D.s.r 0 (by omega)
  obtain ⟨u1, hu1⟩ := D.s.r 1 (by omega)
  obtain ⟨u2, hu2⟩ := D.s.r 2 (by omega)
  obtain ⟨u3, hu3⟩ := D.s.r 3 (by omega)
  obtain ⟨u4, hu4⟩ := D.s.r 4 (by omega)
  obtain ⟨u5, hu5⟩ := D.s.r 5 (by omega)
  obtain ⟨u6, hu6⟩ := D.s.r 6 (by omega)
  obtain ⟨c0, c1, c2, c3, f0, f1, f2, f3, f4, f5, f6, _, cz⟩ := D
  go_wp2_with fail
  refine (checkKind_any a0 a1 k2 k4 0 0 0 none 0 0 ⟨#[]⟩ w1 (HW.out.below HA1.out)).mono ?_
  rintro e w2 ⟨⟨v, rfl, hv⟩, hb⟩
  have HA2 : Hid (Below w.heap.size w w2) := bthen HA1.out hb
  have HD2 : Hid (Desk w.heap.size w2 n W B L k2 k4) := HD1.out.below hb HD1.out.z
  clear hb HD1 HA1
  clear c0 c1 c2 c3 f0 f1 f2 f3 f4 f5 f6 fr hu0 hu1 hu2 hu3 hu4 hu5 hu6 u0 u1 u2 u3 u4 u5 u6 cz
  have D := HD2.out
  have fr := D.s.f
  obtain ⟨u0, hu0⟩ := D.s.r 0 (by omega)
  obtain ⟨u1, hu1⟩ := D.s.r 1 (by omega)
  obtain ⟨u2, hu2⟩ := D.s.r 2 (by omega)
  obtain ⟨u3, hu3⟩ := D.s.r 3 (by omega)
  obtain ⟨u4, hu4⟩ := D.s.r 4 (by omega)
  obtain ⟨u5, hu5⟩ := D.s.r 5 (by omega)
  obtain ⟨u6, hu6⟩ := D.s.r 6 (by omega)
  obtain ⟨c0, c1, c2, c3, f0, f1, f2, f3, f4, f5, f6, _, cz⟩ := D
  cases hr : rKind (k2 : Int) with
  | some x =>
    rw [hr] at hv
    have HV : Hid (IsF a1 v (some x)) := hv
    have HRR : Hid (rRead n W B L s = some x) := by show rRead n W B L s = _; unfold rRead; rw [H2.out, hr]
    obtain ⟨t, y, rfl⟩ := hv.nil_iff.2 x rfl
    clear hv hr
    go_wp2_with fail
    obtain ⟨r0, r1, r2, r3, r4, r5, r6⟩ := Slots.seven HD2.out.s (.int .i64 k2) (.int .i64 k4) (.int .i64 0) (.int .i64 0) (.int .i64 0) (.slice none 0 0) (.string ⟨#[]⟩) _ rfl
    refine bodyPost_ret (v := .tuple #[.agg #[.int .i64 k2, .int .i64 k4, .int .i64 0, .int .i64 0, .int .i64 0, .slice none 0 0, .string ⟨#[]⟩], .iface t y]) (by simp [results, Tryz.results185, go_sem, r0, r1, r2, r3, r4, r5, r6]) rfl ⟨⟨_, _, rfl, ⟨k2, k4, 0, 0, 0, none, 0, 0, _, rfl⟩, ?_, ?_⟩, ?_⟩
    · rw [HRR.out]; exact HV.out
    · intro h; rw [HRR.out] at h; cases h
    · exact below_set7 HA2.out (by omega) _ _ _ _ _ _ _
  | none =>
    rw [hr] at hv
    obtain rfl := hv.nil_iff.1 rfl
    have hK : k2 = 1 ∨ k2 = 2 := by
      by_cases h : (k2 : Int) = 1 ∨ (k2 : Int) = 2
      · omega
      · unfold rKind at hr; rw [if_neg h] at hr; cases hr
    have HKR : Hid (rKind (k2 : Int) = none) := hr
    clear hv hr
    by_cases c9 : s[3].toNat = n
    · have HR3 : Hid (rRead n W B L s = match rFrom n k4 with
        | some x => some x
        | none => if (k2 : Int) = 2 then rState2 n L s else rData2 n W B L s) := by show rRead n W B L s = _; unfold rRead; rw [H2.out, HKR.out, H3.out, H4.out]; simp only [c9, if_true]
      have c9b : ((s[3].toNat : Int) != (n : Int)) = false := by simp [c9]
      clear c9
      go_wp2_with fail
      go_quiet (fail)
      go_wp2_with fail
      have HA3 : Hid (Below w.heap.size w (w2.drewN nq)) := below_drewN HA2.out _
      have HD3 : Hid (Desk w.heap.size (w2.drewN nq) n W B L k2 k4) := HD2.out.below (c := w2.heap.size) (below_drewN (Below.refl _ _) _) HD2.out.z
      clear c0 c1 c2 c3 f0 f1 f2 f3 f4 f5 f6 fr hu0 hu1 hu2 hu3 hu4 hu5 hu6 u0 u1 u2 u3 u4 u5 u6 cz
      generalize w2.drewN nq = w3 at *
      refine (checkFrom_any a0 a1 n W B L k2 k4 0 0 0 none 0 0 ⟨#[]⟩ w3 (HW.out.below HA3.out)).mono ?_
      rintro e w4 ⟨⟨v, rfl, hv⟩, hb⟩
      have HA4 : Hid (Below w.heap.size w w4) := bthen HA3.out hb
      have HD4 : Hid (Desk w.heap.size w4 n W B L k2 k4) := HD3.out.below hb HD3.out.z
      clear hb HD3 HA3
      have D := HD4.out
      have fr := D.s.f
      obtain ⟨u0, hu0⟩ := D.s.r 0 (by omega)
      obtain ⟨u1, hu1⟩ := D.s.r 1 (by omega)
      obtain ⟨u2, hu2⟩ := D.s.r 2 (by omega)
      obtain ⟨u3, hu3⟩ := D.s.r 3 (by omega)
      obtain ⟨u4, hu4⟩ := D.s.r 4 (by omega)
      obtain ⟨u5, hu5⟩ := D.s.r 5 (by omega)
      obtain ⟨u6, hu6⟩ := D.s.r 6 (by omega)
      obtain ⟨c0, c1, c2, c3, f0, f1, f2, f3, f4, f5, f6, _, cz⟩ := D
      cases hr : rFrom (n : Int) (k4 : Int) with
      | some x =>
        rw [hr] at hv
        have HV : Hid (IsF a1 v (some x)) := hv
        have HRR : Hid (rRead n W B L s = some x) := by show rRead n W B L s = _; rw [HR3.out, hr]
        obtain ⟨t, y, rfl⟩ := hv.nil_iff.2 x rfl
        clear hv hr hK
        go_wp2_with fail
        obtain ⟨r0, r1, r2, r3, r4, r5, r6⟩ := Slots.seven HD4.out.s (.int .i64 k2) (.int .i64 k4) (.int .i64 0) (.int .i64 0) (.int .i64 0) (.slice none 0 0) (.string ⟨#[]⟩) _ rfl
        refine bodyPost_ret (v := .tuple #[.agg #[.int .i64 k2, .int .i64 k4, .int .i64 0, .int .i64 0, .int .i64 0, .slice none 0 0, .string ⟨#[]⟩], .iface t y]) (by simp [results, Tryz.results185, go_sem, r0, r1, r2, r3, r4, r5, r6]) rfl ⟨⟨_, _, rfl, ⟨k2, k4, 0, 0, 0, none, 0, 0, _, rfl⟩, ?_, ?_⟩, ?_⟩
        · rw [HRR.out]; exact HV.out
        · intro h; rw [HRR.out] at h; cases h
        · exact below_set7 HA4.out (by omega) _ _ _ _ _ _ _
      | none =>
        rw [hr] at hv
        obtain rfl := hv.nil_iff.1 rfl
        clear hv
        rcases hK with rfl | rfl
        · have HRR : Hid (rRead n W B L s = rData2 n W B L s) := by show rRead n W B L s = _; rw [HR3.out, hr]; rfl
          clear hr
          go_wp2_with fail
          refine (readData_any a0 a1 n W B L k4 s ⟨#[]⟩ w4 (HW.out.below HA4.out) HG.out HS.out).mono ?_
          rintro e w5 ⟨⟨fv, v, rfl, hfv, hv, hgot⟩, hb⟩
          obtain ⟨K', F', O', S', L', ad, len, cap, bd, rfl⟩ := hfv
          have HV : Hid _ := hv
          have HGot : Hid _ := hgot
          have HA5 : Hid (Below w.heap.size w w5) := bthen HA4.out hb
          have HD5 : Hid (Desk w.heap.size w5 n W B L _ k4) := HD4.out.below hb HD4.out.z
          clear hv hgot hb
          clear c0 c1 c2 c3 f0 f1 f2 f3 f4 f5 f6 fr hu0 hu1 hu2 hu3 hu4 hu5 hu6 u0 u1 u2 u3 u4 u5 u6 cz
          have D := HD5.out
          have fr := D.s.f
          obtain ⟨u0, hu0⟩ := D.s.r 0 (by omega)
          obtain ⟨u1, hu1⟩ := D.s.r 1 (by omega)
          obtain ⟨u2, hu2⟩ := D.s.r 2 (by omega)
          obtain ⟨u3, hu3⟩ := D.s.r 3 (by omega)
          obtain ⟨u4, hu4⟩ := D.s.r 4 (by omega)
          obtain ⟨u5, hu5⟩ := D.s.r 5 (by omega)
          obtain ⟨u6, hu6⟩ := D.s.r 6 (by omega)
          obtain ⟨c0, c1, c2, c3, f0, f1, f2, f3, f4, f5, f6, _, cz⟩ := D
          go_wp2_with fail
          obtain ⟨r0, r1, r2, r3, r4, r5, r6⟩ := Slots.seven HD5.out.s (.int .i64 K') (.int .i64 F') (.int .i64 O') (.int .i64 S') (.int .i64 L') (.slice ad len cap) (.string bd) _ rfl
          refine bodyPost_ret (v := .tuple #[.agg #[.int .i64 K', .int .i64 F', .int .i64 O', .int .i64 S', .int .i64 L', .slice ad len cap, .string bd], v]) (by simp [results, Tryz.results185, go_sem, r0, r1, r2, r3, r4, r5, r6]) rfl ⟨⟨_, _, rfl, ⟨_, _, _, _, _, _, _, _, _, rfl⟩, ?_, ?_⟩, ?_⟩
          · rw [HRR.out]; exact HV.out
          · intro h
            rw [HRR.out] at h
            obtain ⟨⟨g, hg, hfe, hrow⟩⟩ := HGot.out h
            have hz := HD4.out.z
            rw [H4.out]
            exact Or.inr ⟨H2.out, ⟨⟨g, by omega, hfe, hrow.set7 (by omega) _ _ _ _ _ _ _⟩⟩⟩
          · exact below_set7 HA5.out (by omega) _ _ _ _ _ _ _
        · have HRR : Hid (rRead n W B L s = rState2 n L s) := by show rRead n W B L s = _; rw [HR3.out, hr]; rfl
          clear hr
          go_wp2_with fail
          refine (readState_any a0 a1 n W B L k4 s ⟨#[]⟩ rfl w4 (HW.out.below HA4.out) HG.out HS.out HL.out).mono ?_
          rintro e w5 ⟨⟨fv, v, rfl, hfv, hv, hgot⟩, hb⟩
          obtain ⟨K', F', O', S', L', ad, len, cap, bd, rfl⟩ := hfv
          have HV : Hid _ := hv
          have HGot : Hid _ := hgot
          have HA5 : Hid (Below w.heap.size w w5) := bthen HA4.out hb
          have HD5 : Hid (Desk w.heap.size w5 n W B L _ k4) := HD4.out.below hb HD4.out.z
          clear hv hgot hb
          clear c0 c1 c2 c3 f0 f1 f2 f3 f4 f5 f6 fr hu0 hu1 hu2 hu3 hu4 hu5 hu6 u0 u1 u2 u3 u4 u5 u6 cz
          have D := HD5.out
          have fr := D.s.f
          obtain ⟨u0, hu0⟩ := D.s.r 0 (by omega)
          obtain ⟨u1, hu1⟩ := D.s.r 1 (by omega)
          obtain ⟨u2, hu2⟩ := D.s.r 2 (by omega)
          obtain ⟨u3, hu3⟩ := D.s.r 3 (by omega)
          obtain ⟨u4, hu4⟩ := D.s.r 4 (by omega)
          obtain ⟨u5, hu5⟩ := D.s.r 5 (by omega)
          obtain ⟨u6, hu6⟩ := D.s.r 6 (by omega)
          obtain ⟨c0, c1, c2, c3, f0, f1, f2, f3, f4, f5, f6, _, cz⟩ := D
          go_wp2_with fail
          obtain ⟨r0, r1, r2, r3, r4, r5, r6⟩ := Slots.seven HD5.out.s (.int .i64 K') (.int .i64 F') (.int .i64 O') (.int .i64 S') (.int .i64 L') (.slice ad len cap) (.string bd) _ rfl
          refine bodyPost_ret (v := .tuple #[.agg #[.int .i64 K', .int .i64 F', .int .i64 O', .int .i64 S', .int .i64 L', .slice ad len cap, .string bd], v]) (by simp [results, Tryz.results185, go_sem, r0, r1, r2, r3, r4, r5, r6]) rfl ⟨⟨_, _, rfl, ⟨_, _, _, _, _, _, _, _, _, rfl⟩, ?_, ?_⟩, ?_⟩
          · rw [HRR.out]; exact HV.out
          · intro h
            rw [HRR.out] at h
            obtain ⟨⟨g, hg, hfe, hrow⟩⟩ := HGot.out h
            have hz := HD4.out.z
            rw [H4.out]
            exact Or.inl ⟨H2.out, ⟨⟨g, by omega, hfe, hrow.set7 (by omega) _ _ _ _ _ _ _⟩⟩⟩
          · exact below_set7 HA5.out (by omega) _ _ _ _ _ _ _
    · have HRR : Hid (rRead n W B L s = some (some 3)) := by show rRead n W B L s = _; unfold rRead; rw [H2.out, HKR.out, H3.out]; simp only [c9, if_false]
      have c9b : ((s[3].toNat : Int) != (n : Int)) = true := bne_iff_ne.2 (by omega)
      clear c9
      go_wp2_with fail
      go_quiet (fail)
      go_wp2_with fail
      go_region_with (first | (go_at_call 209; refine (refuseAt_f a0 a1 _ _ _ ?_).mono ?_; exact (HW.out.below (below_drewN HA2.out _)).drew; rintro e w' ⟨⟨vr, rfl, hvr⟩, rfl⟩))
      all_goals
        go_wp2
        have HS9 : Hid (Slots (w.heap.size + 1) (w2.drewN (nq + 1))) := HD2.out.s.below (c := w2.heap.size) (below_drewN (Below.refl _ _) _) HD2.out.s.z
        obtain ⟨r0, r1, r2, r3, r4, r5, r6⟩ := Slots.seven HS9.out (.int .i64 k2) (.int .i64 k4) (.int .i64 0) (.int .i64 0) (.int .i64 0) (.slice none 0 0) (.string ⟨#[]⟩) _ rfl
        refine bodyPost_ret (v := .tuple #[.agg #[.int .i64 k2, .int .i64 k4, .int .i64 0, .int .i64 0, .int .i64 0, .slice none 0 0, .string ⟨#[]⟩], vr]) (by simp [results, Tryz.results185, go_sem, r0, r1, r2, r3, r4, r5, r6]) rfl ⟨⟨_, _, rfl, ⟨k2, k4, 0, 0, 0, none, 0, 0, _, rfl⟩, ?_, ?_⟩, ?_⟩
        · rw [HRR.out]; exact hvr
        · intro h; rw [HRR.out] at h; cases h
        · exact below_set7 (below_drewN HA2.out _) (by omega) _ _ _ _ _ _ _
end Go.Proofs.YtabecbjfamphbaaGreatDoor
