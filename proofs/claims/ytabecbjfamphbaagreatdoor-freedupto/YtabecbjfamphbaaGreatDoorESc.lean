/-
  Texts that the proofs of this seat share, joined: Sc.
-/
import Derived.Test.YtabecbjfamphbaaGreatDoorESb
import Derived.Test.YtabecbjfamphbaaGreatDoorB39
/- hearsaykeep: Freed. -/
namespace Go.Proofs.YtabecbjfamphbaaGreatDoor
open Go.RowKit Go.Stop Go.Extern

set_option maxRecDepth 100000 in
set_option maxHeartbeats 2000000 in
theorem freedLaw_any (A : Nat → Addr) (base : Nat) (N W B L : Int) (ad : Option Addr) (cap : Nat) (ops : List Stp) (hN : I64 N) (hW : I64 W) (hB : I64 B) (hL : I64 L) (hm : ops.length ≤ 9000000) (w : World) (hw : Sl w A base) (hbz : base ≤ w.heap.size) (hs : Scr w w.heap.size ad ops) :
    Calls Tryz.prog 7 #[.agg #[.int .i64 N, .int .i64 W, .int .i64 B, .int .i64 L], .slice ad ops.length cap] w fun e w' => e = .returned (.bool true) ∧ Below w.heap.size w w' := by
  have HFit : Hid _ := fun y => fit_g N W B L y hN hW hB hL
  have hg := fitG_ok N W B L
  have HW : Hid _ := hw
  have HS : Hid _ := hs
  have HZ : Hid (base ≤ w.heap.size) := hbz
  generalize fitG N W B L = g at *
  have HG : Hid g.Ok := hg
  have hn8 := hg.n.2
  have HMet : Hid (∀ y, Below w.heap.size w y → Calls Tryz.prog 12 #[.agg #[.int .i64 (g.n : Int), .int .i64 g.W, .int .i64 g.B, .int .i64 g.L]] y fun e w' => (∃ rb, e = .returned (.pointer (some ⟨rb, 0, none⟩)) ∧ Ran y.heap.size w' rb g 0) ∧ Below y.heap.size y w') := fun y hy => by
    refine (met_any A base g hg y (hw.low hy)).mono ?_
    rintro e w' ⟨⟨rb, rfl, hc⟩, hb⟩
    exact ⟨⟨rb, rfl, _, _, _, _, _, hc, Run.new hg _ (fun s hs => by rw [List.eq_of_mem_replicate hs])⟩, hb⟩
  clear hw hs hbz hg
  go_enter Tryz.func7, Tryz.ntmps7
  go_wp2_with fail
  have HX : Hid _ := below1 w (.cells #[.int .i64 N, .int .i64 W, .int .i64 B, .int .i64 L] 26)
  generalize w.alloc (.cells #[.int .i64 N, .int .i64 W, .int .i64 B, .int .i64 L] 26) = X at *
  refine (show Calls _ _ _ _ _ from HFit.out _).mono ?_
  rintro e w1 ⟨rfl, hb1⟩
  have HB1 : Hid (Below w.heap.size w w1) := bthen HX.out hb1
  clear hb1
  go_wp2_with fail
  refine (show Calls _ _ _ _ _ from HMet.out _ HB1.out).mono ?_
  rintro e w2 ⟨⟨rb, rfl, hr2⟩, hb2⟩
  have HR2 : Hid (Ran w1.heap.size w2 rb g 0) := hr2
  have HB2 : Hid (Below w1.heap.size w1 w2) := hb2
  have HB02 : Hid (Below w.heap.size w w2) := bthen HB1.out hb2
  clear hr2 hb2
  go_wp2_with fail
  refine (first_any A base w2 (HW.out.low HB02.out) (Nat.le_trans HZ.out HB02.out.size)).mono ?_
  rintro e w3 ⟨rfl, hb3⟩
  have HR3 : Hid (Ran w1.heap.size w3 rb g 0) := Ran.low HR2.out hb3
  have HB03 : Hid (Below w.heap.size w w3) := bthen HB02.out hb3
  clear hb3
  have hz1 : base ≤ w1.heap.size := Nat.le_trans HZ.out HB1.out.size
  have HZ1 : Hid (w.heap.size ≤ w1.heap.size) := HB1.out.size
  have HSt : Hid (∀ y k o, ops[k]? = some o → Below w.heap.size w y → Ran w1.heap.size y rb g k → Calls Tryz.prog 22 #[.pointer (some ⟨rb, 0, none⟩), o.val] y fun e w' => e = .returned (.bool true) ∧ Ran w1.heap.size w' rb g (k + 1) ∧ Below w1.heap.size y w') := fun y k o hk hy hr => by
    have hkl := (List.getElem?_eq_some_iff.1 hk).1
    exact step_any A base w1.heap.size rb g k o (HS.out.ok o (List.mem_of_getElem? hk)) HG.out (by omega) y (HW.out.low hy) hz1 hr
  have HFr : Hid (∀ y k p, k ≤ ops.length → p < g.n → Below w.heap.size w y → Ran w1.heap.size y rb g k → Calls Tryz.prog 23 #[.pointer (some ⟨rb, 0, none⟩), .int .i64 ((p : Nat) : Int)] y fun e w' => e = .returned (.bool true) ∧ Below y.heap.size y w') := fun y k p hk hp hy hr => by
    obtain ⟨x, sd, sn, bag, said, hC, hR⟩ := hr
    have hln : sd.length ≤ 10000000 := by have h1 := hR.len; have h2 := hR.short; omega
    exact freed_any A base w1.heap.size rb g x sd sn p HG.out (hR.ok HG.out (by omega)) hp hln (hR.freed HG.out hp) y (HW.out.low hy) hC
  have HC0 : Hid (∀ y k, Ran w1.heap.size y rb g k → y.cell? ⟨rb, 0, none⟩ = some (.int .i64 (g.n : Int))) := fun y k hr => by
    obtain ⟨x, sd, sn, bag, said, hC, hR⟩ := hr
    obtain ⟨C, hCi, _⟩ := hC.how
    exact hCi.c0
  have HMore : Hid (∀ y k, Ran w1.heap.size y rb g k → Ran w1.heap.size y rb g (k + 1)) := fun y k hr => by
    obtain ⟨x, sd, sn, bag, said, hC, hR⟩ := hr
    exact ⟨x, sd, sn, bag, said, hC, hR.more⟩
  go_wp2_with fail
  go_loopw [6, 7] (fun a c wr => ∃ k : Nat, k ≤ ops.length + 1 ∧ a = .bool true ∧ c = .int .i64 k ∧ Ran w1.heap.size wr rb g k ∧ Below w.heap.size w wr) (fun _ c _ => ops.length + 1 - (intOf c).toNat)
  case atStart => exact ⟨0, Nat.zero_le _, rfl, rfl, HR3.out, HB03.out⟩
  case round =>
    obtain ⟨k, hkn, rfl, rfl, hr, hb⟩ := hrel
    have HR : Hid (Ran w1.heap.size wr rb g k) := hr
    have HB : Hid (Below w.heap.size w wr) := hb
    clear hr hb
    by_cases hlt : k < ops.length
    · have hki : (k : Int) < (ops.length : Int) := by omega
      have hkle : (k : Int) ≤ (ops.length : Int) := by omega
      obtain ⟨o, hok⟩ : ∃ o, ops[k]? = some o := ⟨ops[k], List.getElem?_eq_getElem _⟩
      obtain ⟨b, off, rfl, hbz, hst⟩ := HS.out.lies k o hok
      have hst' := StpAt.below hst HB.out hbz
      have hoK := (HS.out.ok o (List.mem_of_getElem? hok)).K
      have HStk : Hid _ := HSt.out wr k o hok HB.out HR.out
      unfold Stp.val at HStk
      obtain ⟨t0, t1, t2, t3, t4, t5, t6, t7, t8, t9, t10, t11⟩ := hst'
      obtain ⟨K, a, bb, v, s, f0, f1, f2, f3, f4, fa, fl, fc, fb⟩ := o
      simp only at t0 t1 t2 t3 t4 t5 t6 t7 t8 t9 t10 t11 hoK
      have HPK : Hid _ := fun y => pick_any K 7 y hoK (by omega) (by omega)
      have hjb := pk_bd K 7 (by omega)
      generalize pk K 7 = j at *
      clear hok hst
      by_cases h6 : j = 6
      · subst h6
        go_wp2_with fail
        refine (show Calls _ _ _ _ _ from HPK.out _).mono ?_
        rintro e w4 ⟨rfl, hw4⟩
        subst hw4
        clear t0 t1 t2 t3 t4 t5 t6 t7 t8 t9 t10 t11
        go_wp2_with fail
        go_loopw [6, 8] (fun a c wq => ∃ q : Nat, q ≤ g.n ∧ a = .bool true ∧ c = .int .i64 q ∧ Below w4.heap.size w4 wq) (fun _ c _ => g.n - (intOf c).toNat)
        case atStart => exact ⟨0, Nat.zero_le _, rfl, rfl, Below.refl _ _⟩
        case round =>
          obtain ⟨q, hqn, rfl, rfl, hbq⟩ := hrel
          have HRq : Hid (Ran w1.heap.size wr rb g k) := Ran.low HR.out hbq
          have HBq : Hid (Below w4.heap.size w4 wr) := hbq
          have HB0 : Hid (Below w.heap.size w wr) := bthen HB.out hbq
          have c0 := HC0.out wr k HRq.out
          clear hbq
          by_cases hq : q < g.n
          · have hqi : (q : Int) < (g.n : Int) := by omega
            go_wp2_with fail
            refine (show Calls _ _ _ _ _ from HFr.out wr k q (by omega) hq HB0.out HRq.out).mono ?_
            rintro e w5 ⟨rfl, hb5⟩
            have HB5 : Hid (Below w4.heap.size w4 w5) := bthen HBq.out hb5
            clear hb5
            go_wp2_with fail
            go_roundw
            case rel => exact ⟨q + 1, by omega, rfl, by go_num, HB5.out⟩
            case measure => simp [intOf]; omega
          · have hqn' : q = g.n := by omega
            subst hqn'
            go_wp2_with fail
            go_roundw
            case rel => exact ⟨k + 1, by omega, rfl, by go_num, HMore.out _ _ HRq.out, HB0.out⟩
            case measure => simp [intOf]; omega
      · have g6 : (j == 6) = false := by simp [h6]
        go_wp2_with fail
        refine (show Calls _ _ _ _ _ from HPK.out _).mono ?_
        rintro e w4 ⟨rfl, hw4⟩
        subst hw4
        go_wp2_with fail
        refine (show Calls _ _ _ _ _ from HStk.out).mono ?_
        rintro e w5 ⟨rfl, hr5, hb5⟩
        have HR5 : Hid (Ran w1.heap.size w5 rb g (k + 1)) := hr5
        have HB5 : Hid (Below w.heap.size w w5) := HB.out.trans (hb5.mono HZ1.out)
        clear hr5 hb5
        go_wp2_with fail
        go_roundw
        case rel => exact ⟨k + 1, by omega, rfl, by go_num, HR5.out, HB5.out⟩
        case measure => simp [intOf]; omega
    · by_cases hle : k = ops.length
      · subst hle
        obtain ⟨wz, hwz⟩ : ∃ wz, wz = wr := ⟨_, rfl⟩
        subst hwz
        go_wp2_with fail
        go_loopw [6, 8] (fun a c wq => ∃ q : Nat, q ≤ g.n ∧ a = .bool true ∧ c = .int .i64 q ∧ Below wz.heap.size wz wq) (fun _ c _ => g.n - (intOf c).toNat)
        case atStart => exact ⟨0, Nat.zero_le _, rfl, rfl, Below.refl _ _⟩
        case round =>
          obtain ⟨q, hqn, rfl, rfl, hbq⟩ := hrel
          have HRq : Hid (Ran w1.heap.size wr rb g ops.length) := Ran.low HR.out hbq
          have HBq : Hid (Below wz.heap.size wz wr) := hbq
          have HB0 : Hid (Below w.heap.size w wr) := bthen HB.out hbq
          have c0 := HC0.out wr _ HRq.out
          clear hbq
          by_cases hq : q < g.n
          · have hqi : (q : Int) < (g.n : Int) := by omega
            go_wp2_with fail
            refine (show Calls _ _ _ _ _ from HFr.out wr ops.length q (by omega) hq HB0.out HRq.out).mono ?_
            rintro e w5 ⟨rfl, hb5⟩
            have HB5 : Hid (Below wz.heap.size wz w5) := bthen HBq.out hb5
            clear hb5
            go_wp2_with fail
            go_roundw
            case rel => exact ⟨q + 1, by omega, rfl, by go_num, HB5.out⟩
            case measure => simp [intOf]; omega
          · have hqn' : q = g.n := by omega
            subst hqn'
            go_wp2_with fail
            go_roundw
            case rel => exact ⟨ops.length + 1, by omega, rfl, by go_num, HMore.out _ _ HRq.out, HB0.out⟩
            case measure => simp [intOf]
      · have hgt : ¬ (k : Int) ≤ (ops.length : Int) := by omega
        go_wp2_with fail
        go_ret
        exact ⟨rfl, HB.out⟩
end Go.Proofs.YtabecbjfamphbaaGreatDoor
