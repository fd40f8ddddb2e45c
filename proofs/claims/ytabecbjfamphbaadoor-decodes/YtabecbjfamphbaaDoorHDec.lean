/-
  The face's Decode.
-/
import Derived.Test.YtabecbjfamphbaaDoorWDec
import Derived.Test.YtabecbjfamphbaaDoorAsD
import Derived.Test.YtabecbjfamphbaaDoorRow
namespace Go.Proofs.YtabecbjfamphbaaDoor
open Go.RowKit Go.Stop Go.Extern

/-- The place that an error tells. -/
def IsPl (v : Value) (p : Int) : Prop :=
  (v = .nilIface ∧ p = 0) ∨ (∃ a s, v = .iface 117 (.agg #[.string s, .iface 137 (.pointer (some a))]) ∧ p = 0) ∨ (∃ t u, v = .iface 91 (.agg #[.int .i64 p, .iface t u]))
theorem place_any (v : Value) (p : Int) (h : IsPl v p) (w : World) (hT : ErrT w) : Calls Tryd.prog 36 #[v] w fun e w' => e = .returned (.int .i64 p) ∧ Below w.heap.size w w' := by
  rcases h with ⟨rfl, rfl⟩ | ⟨a, s, rfl, rfl⟩ | ⟨t, u, rfl⟩
  · exact place_nil w
  · exact place_why a s w hT
  · exact place_at p t u w hT
def placeOf : Option (Option Int) → Int
  | some (some p) => p
  | _ => 0
theorem IsF.pl {a1 : Addr} {v : Value} {r : Option (Option Int)} (h : IsF a1 v r) : IsPl v (placeOf r) := by
  rcases h.how with ⟨rfl, rfl⟩ | ⟨rfl, s, rfl⟩ | ⟨p, s, rfl, rfl⟩
  · exact Or.inl ⟨rfl, rfl⟩
  · exact Or.inr (Or.inl ⟨_, _, rfl, rfl⟩)
  · exact Or.inr (Or.inr ⟨_, _, rfl⟩)
theorem Got.keep {w w' : World} {base base' n : Nat} {K F O S Lw : Int} {vs : List Int} {body : ByteArray} {fv : Value} (h : Got w base n K F O S Lw vs body fv) (hk : ∀ g zs, base ≤ g → RowI w g zs → RowI w' g zs) (hb : base' ≤ base) : Got w' base' n K F O S Lw vs body fv := by
  obtain ⟨⟨g, hg, hf, hr⟩⟩ := h
  exact ⟨⟨g, Nat.le_trans hb hg, hf, hk g _ hg hr⟩⟩
theorem Read.keep {w w' : World} {base base' n : Nat} {s : ByteArray} {fv : Value} (h : Read w base n s fv) (hk : ∀ g zs, base ≤ g → RowI w g zs → RowI w' g zs) (hb : base' ≤ base) : Read w' base' n s fv := by
  rcases h with ⟨h1, h2⟩ | ⟨h1, h2⟩
  · exact Or.inl ⟨h1, h2.keep hk hb⟩
  · exact Or.inr ⟨h1, h2.keep hk hb⟩

set_option maxRecDepth 100000 in
set_option maxHeartbeats 2000000 in
theorem hDecode_of (a0 a1 : Addr) (N W B L : Int) (s : ByteArray) (T : Prop) (n : Nat) (p k : Int) (w : World) (hw : Sent w a0 a1) (hT : ErrT w)
    (hD : ∀ x, Sent x a0 a1 → Calls Tryd.prog 35 #[.agg #[.int .i64 N, .int .i64 W, .int .i64 B, .int .i64 L], .string s] x
      fun e w' => (∃ fv v, e = .returned (.tuple #[fv, v]) ∧ FrV fv ∧ IsErr a0 a1 v k ∧ IsPl v p ∧ (¬ T → fv = fz) ∧ (T → Read w' x.heap.size n s fv)) ∧ Below x.heap.size x w') :
    Calls Tryd.prog 13 #[.agg #[.int .i64 N, .int .i64 W, .int .i64 B, .int .i64 L], .string s] w
      fun e w' => (∃ fv, e = .returned (.tuple #[fv, .int .i64 p, .int .i64 k]) ∧ (¬ T → fv = fz) ∧ (T → Read w' w.heap.size n s fv)) ∧ Below w.heap.size w w' := by
  have HW : Hid (Sent w a0 a1) := hw
  have HT : Hid (ErrT w) := hT
  have HX : Hid _ := hD
  clear hw hT hD
  have HP0 : Hid _ := pen_start w N W B L 23 26
  go_enter Tryd.func13, Tryd.ntmps13
  go_wp2_with fail
  refine (HX.out _ ((HW.out.alloc _).alloc _)).mono ?_
  rintro e w1 ⟨⟨fv, v, rfl, hfv, herr, hpl, hno, hyes⟩, hb⟩
  obtain ⟨K', F', O', S', L', ad, len, cap, bd, rfl⟩ := hfv
  have HErr : Hid (IsErr a0 a1 v k) := herr
  have HPl : Hid (IsPl v p) := hpl
  have HNo : Hid _ := hno
  have HYes : Hid _ := hyes
  have HA1 : Hid (Below w.heap.size w w1) := bthen (below2 _ _ _) hb
  have HS1 : Hid (Slots (w.heap.size + 1) w1) := (HP0.out.below hb HP0.out.z).s
  have hz1 : w.heap.size + 1 < w1.heap.size := (HP0.out.below hb HP0.out.z).z
  clear herr hpl hno hyes hb
  go_wp2_with fail
  have hal : Below w1.heap.size w1 (w1.alloc (.cells #[.int .i64 K', .int .i64 F', .int .i64 O', .int .i64 S', .int .i64 L', .slice ad len cap, .string bd] 26)) := (Below.refl _ _).alloc (Nat.le_refl _) _
  have hsev := seven_alloc w1 (.int .i64 K') (.int .i64 F') (.int .i64 O') (.int .i64 S') (.int .i64 L') (.slice ad len cap) (.string bd) 26
  have hbig : w1.heap.size < (w1.alloc (.cells #[.int .i64 K', .int .i64 F', .int .i64 O', .int .i64 S', .int .i64 L', .slice ad len cap, .string bd] 26)).heap.size := by simp
  generalize w1.alloc (.cells #[.int .i64 K', .int .i64 F', .int .i64 O', .int .i64 S', .int .i64 L', .slice ad len cap, .string bd] 26) = X at *
  have HAL : Hid (Below w1.heap.size w1 X) := hal
  have HAX : Hid (Below w.heap.size w X) := bthen HA1.out hal
  have HSX : Hid (Slots (w.heap.size + 1) X) := HS1.out.below hal hz1
  have HQX : Hid (Seven w1.heap.size X _ _ _ _ _ _ _) := hsev
  have hxz : w.heap.size + 1 < X.heap.size := by omega
  obtain ⟨q0, q1, q2, q3, q4, q5, q6, qz⟩ := hsev
  clear hal
  have HSXd : Hid (Slots (w.heap.size + 1) X.drew) := HSX.out.below (c := X.heap.size) (Below.refl _ _).drew hxz
  have HQXd : Hid (Seven w1.heap.size X.drew _ _ _ _ _ _ _) := HQX.out.below (c := X.heap.size) (Below.refl _ _).drew qz
  go_region_with (first
    | (go_at_call 36; refine (place_any v p HPl.out X.drew (HT.out.below HAX.out.drew)).mono ?_; rintro e w2 ⟨rfl, hb2⟩; have HA2 : Hid (Below w.heap.size w w2) := bthen HAX.out.drew hb2; have HS2 : Hid (Slots (w.heap.size + 1) w2) := HSXd.out.below hb2 HSXd.out.z; have HQ2 : Hid _ := HQXd.out.below hb2 HQXd.out.z; have hQ2 := HQ2.out; obtain ⟨p0, p1, p2, p3, p4, p5, p6, pz⟩ := hQ2; have HB2 : Hid _ := hb2; clear hb2)
    | (go_at_call 34; refine (number_any a0 a1 v k HErr.out _ (HW.out.below HA2.out)).mono ?_; rintro e w3 ⟨rfl, hb3⟩; have HA3 : Hid (Below w.heap.size w w3) := bthen HA2.out hb3; have HS3 : Hid (Slots (w.heap.size + 1) w3) := HS2.out.below hb3 HS2.out.z; have HQ3 : Hid _ := HQ2.out.below hb3 HQ2.out.z; have hQ3 := HQ3.out; obtain ⟨o0, o1, o2, o3, o4, o5, o6, oz⟩ := hQ3; have HB3 : Hid _ := hb3; have fr3 := HS3.out.f; obtain ⟨u0, hu0⟩ := HS3.out.r 0 (by omega); obtain ⟨u1, hu1⟩ := HS3.out.r 1 (by omega); obtain ⟨u2, hu2⟩ := HS3.out.r 2 (by omega); obtain ⟨u3, hu3⟩ := HS3.out.r 3 (by omega); obtain ⟨u4, hu4⟩ := HS3.out.r 4 (by omega); obtain ⟨u5, hu5⟩ := HS3.out.r 5 (by omega); obtain ⟨u6, hu6⟩ := HS3.out.r 6 (by omega); clear hb3))
  all_goals
    go_wp2
    have hB13 : Below w1.heap.size w1 w3 := bthen (bthen HAL.out.drew HB2.out) HB3.out
    obtain ⟨r0, r1, r2, r3, r4, r5, r6⟩ := Slots.seven HS3.out (.int .i64 K') (.int .i64 F') (.int .i64 O') (.int .i64 S') (.int .i64 L') (.slice ad len cap) (.string bd) _ rfl
    refine bodyPost_ret (v := .tuple #[.agg #[.int .i64 K', .int .i64 F', .int .i64 O', .int .i64 S', .int .i64 L', .slice ad len cap, .string bd], .int .i64 p, .int .i64 k]) (by simp [results, Tryd.results13, go_sem, r0, r1, r2, r3, r4, r5, r6]) rfl ⟨⟨_, rfl, HNo.out, fun h => (HYes.out h).keep (fun g zs hg hr => (hr.below hB13 hr.lt).set7 (by simp at hg; omega) _ _ _ _ _ _ _) (by simp; omega)⟩, below_set7 HA3.out (by omega) _ _ _ _ _ _ _⟩
theorem hDecode_no (a0 a1 : Addr) (N W B L : Int) (s : ByteArray) (w : World) (hw : Sent w a0 a1) (hT : ErrT w) (hG : okG N W B L = false) :
    Calls Tryd.prog 13 #[.agg #[.int .i64 N, .int .i64 W, .int .i64 B, .int .i64 L], .string s] w fun e w' => e = .returned (.tuple #[fz, .int .i64 0, .int .i64 1]) ∧ Below w.heap.size w w' := by
  refine (hDecode_of a0 a1 N W B L s False 0 0 1 w hw hT fun x hx => (wireDecode_no a0 a1 N W B L s x hx hG).mono ?_).mono ?_
  · rintro e w' ⟨⟨t, rfl⟩, hb⟩
    exact ⟨⟨_, _, rfl, ⟨_, _, _, _, _, _, _, _, _, rfl⟩, ⟨Or.inr (Or.inl ⟨_, rfl, rfl⟩)⟩, Or.inr (Or.inl ⟨_, _, rfl, rfl⟩), fun _ => rfl, fun h => h.elim⟩, hb⟩
  · rintro e w' ⟨⟨fv, rfl, h1, -⟩, hb⟩
    rw [h1 (fun h => h)]
    exact ⟨rfl, hb⟩
theorem hDecode_yes (a0 a1 : Addr) (n : Nat) (W B L : Int) (s : ByteArray) (w : World) (hw : Sent w a0 a1) (hT : ErrT w) (hG : okG n W B L = true) (hs : s.size ≤ maxLen) :
    Calls Tryd.prog 13 #[.agg #[.int .i64 (n : Int), .int .i64 W, .int .i64 B, .int .i64 L], .string s] w
      fun e w' => (∃ fv, e = .returned (.tuple #[fv, .int .i64 (placeOf (rAll n W B L s)), .int .i64 (if rAll n W B L s = none then 0 else 5)]) ∧ (¬ rAll n W B L s = none → fv = fz) ∧ (rAll n W B L s = none → Read w' w.heap.size n s fv)) ∧ Below w.heap.size w w' := by
  refine hDecode_of a0 a1 n W B L s (rAll n W B L s = none) n _ _ w hw hT fun x hx => (wireDecode_yes a0 a1 n W B L s x hx hG hs).mono ?_
  rintro e w' ⟨⟨fv, v, rfl, hfv, hv, hno, hyes⟩, hb⟩
  refine ⟨⟨fv, v, rfl, hfv, hv.err, hv.pl, ?_, hyes⟩, hb⟩
  intro h
  cases hr : rAll n W B L s with
  | none => exact absurd hr h
  | some x => exact hno x hr
end Go.Proofs.YtabecbjfamphbaaDoor
