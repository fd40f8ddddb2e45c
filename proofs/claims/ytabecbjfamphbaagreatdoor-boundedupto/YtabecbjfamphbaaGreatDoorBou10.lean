/-
  Texts that the proofs of this seat share, joined: We.
-/
import Derived.Test.YtabecbjfamphbaaGreatDoorBou09
import Derived.Test.YtabecbjfamphbaaGreatDoorB39
/- hearsaykeep: Bounded. -/
namespace Go.Proofs.YtabecbjfamphbaaGreatDoor
open Go.RowKit Go.Stop Go.Extern

theorem Run.wld {g : Gr} {x : MNet} {sd : List Sd} {sn : List Sn} {bag : List (Nat × Msg)} {said : List Fm} {m : Nat} (h : Run g x sd sn bag said m) (hg : g.Ok) : Wld g x m :=
  ⟨h.net.inv.ok, fun t ht => ⟨(h.text hg t ht).1, (h.text hg t ht).2.1, (h.text hg t ht).2.2.2⟩, h.ref, by rw [h.enc, List.length_map]; exact h.few⟩
set_option maxRecDepth 100000 in
set_option maxHeartbeats 4000000 in
theorem bounded_any (A : Nat → Addr) (base : Nat) (N W B L : Int) (ad : Option Addr) (cap : Nat) (ops : List Stp) (hN : I64 N) (hW : I64 W) (hB : I64 B) (hL : I64 L) (hm : ops.length ≤ 9000000) (w : World) (hw : Sl w A base) (hT : ErrT w) (hbz : base ≤ w.heap.size) (hs : Scr w w.heap.size ad ops) (hF : ∀ o ∈ ops, o.FOk w) :
    Calls Tryz.prog 8 #[.agg #[.int .i64 N, .int .i64 W, .int .i64 B, .int .i64 L], .slice ad ops.length cap] w fun e w' => e = .returned (.bool true) ∧ Below w.heap.size w w' := by
  have HFit : Hid _ := fun y => fit_g N W B L y hN hW hB hL
  have hg := fitG_ok N W B L
  have HW : Hid _ := hw
  have HT : Hid (ErrT w) := hT
  have HS : Hid _ := hs
  have HF : Hid (∀ o ∈ ops, o.FOk w) := hF
  have HZ : Hid (base ≤ w.heap.size) := hbz
  generalize fitG N W B L = g at *
  have HG : Hid g.Ok := hg
  have hn := hg.n
  have HMet : Hid (∀ y, Below w.heap.size w y → Calls Tryz.prog 12 #[.agg #[.int .i64 (g.n : Int), .int .i64 g.W, .int .i64 g.B, .int .i64 g.L]] y fun e w' => (∃ rb sd sn, e = .returned (.pointer (some ⟨rb, 0, none⟩)) ∧ WRan y.heap.size w' rb g sd sn 0) ∧ Below y.heap.size y w') := fun y hy => by
    refine (met_any A base g hg y (hw.low hy)).mono ?_
    rintro e w' ⟨⟨rb, rfl, hc⟩, hb⟩
    exact ⟨⟨rb, _, _, rfl, _, hc, (Run.new hg (sn0 g.n) (fun s hs => by rw [List.eq_of_mem_replicate hs])).wld hg⟩, hb⟩
  clear hw hs hbz hg hT hF
  go_enter Tryz.func8, Tryz.ntmps8
  go_wp2_with fail
  have HX : Hid _ := below1 w (.cells #[.int .i64 N, .int .i64 W, .int .i64 B, .int .i64 L] 26)
  generalize w.alloc (.cells #[.int .i64 N, .int .i64 W, .int .i64 B, .int .i64 L] 26) = X at *
  refine (show Calls _ _ _ _ _ from HFit.out _).mono ?_
  rintro e w1 ⟨rfl, hb1⟩
  have HB1 : Hid (Below w.heap.size w w1) := bthen HX.out hb1
  clear hb1
  go_wp2_with fail
  refine (show Calls _ _ _ _ _ from HMet.out _ HB1.out).mono ?_
  rintro e w2 ⟨⟨rb, sd, sn, rfl, hr2⟩, hb2⟩
  have HR2 : Hid (WRan w1.heap.size w2 rb g sd sn 0) := hr2
  have HB02 : Hid (Below w.heap.size w w2) := bthen HB1.out hb2
  clear hr2 hb2
  go_wp2_with fail
  refine (first_any A base w2 (HW.out.low HB02.out) (Nat.le_trans HZ.out HB02.out.size)).mono ?_
  rintro e w3 ⟨rfl, hb3⟩
  have HR3 : Hid (WRan w1.heap.size w3 rb g sd sn 0) := HR2.out.low hb3
  have HB03 : Hid (Below w.heap.size w w3) := bthen HB02.out hb3
  clear hb3
  have hz1 : base ≤ w1.heap.size := Nat.le_trans HZ.out HB1.out.size
  have HZ1 : Hid (w.heap.size ≤ w1.heap.size) := HB1.out.size
  have HSt : Hid (∀ y k o, ops[k]? = some o → Below w.heap.size w y → WRan w1.heap.size y rb g sd sn k → Calls Tryz.prog 24 #[.pointer (some ⟨rb, 0, none⟩), o.val] y fun e w' => e = .returned (.bool true) ∧ WRan w1.heap.size w' rb g sd sn (k + 1) ∧ Below w1.heap.size y w') := fun y k o hk hy hr => by
    have hkl := (List.getElem?_eq_some_iff.1 hk).1
    have hom := List.mem_of_getElem? hk
    exact wild_any A base w1.heap.size rb g sd sn k o (HS.out.ok o hom) HG.out (by omega) y ((HF.out o hom).below hy) (HW.out.low hy) (HT.out.below hy) hz1 hr
  have HFw : Hid (∀ y k p, k ≤ ops.length → p < g.n → Below w.heap.size w y → WRan w1.heap.size y rb g sd sn k → Calls Tryz.prog 25 #[.pointer (some ⟨rb, 0, none⟩), .int .i64 ((p : Nat) : Int)] y fun e w' => e = .returned (.bool true) ∧ Below y.heap.size y w') := fun y k p hk hp hy hr => by
    obtain ⟨x, hC, hWl⟩ := hr
    exact few_any A base w1.heap.size rb g x sd sn p HG.out (hWl.ok (by omega)) hp y (HW.out.low hy) hC
  have HHd : Hid (∀ y k p, k ≤ ops.length → p < g.n → Below w.heap.size w y → WRan w1.heap.size y rb g sd sn k → Calls Tryz.prog 26 #[.pointer (some ⟨rb, 0, none⟩), .int .i64 ((p : Nat) : Int)] y fun e w' => (∃ c cs, e = .returned (.tuple #[.slice (some ⟨c, 0, none⟩) g.n g.n, .bool true]) ∧ RowI w' c cs ∧ cs.length = g.n ∧ ∀ q, q < g.n → cs.getD q 0 ≤ g.L) ∧ Below y.heap.size y w') := fun y k p hk hp hy hr => by
    obtain ⟨x, hC, hWl⟩ := hr
    refine (heard_any A base w1.heap.size rb g x sd sn p HG.out (hWl.ok (by omega)) hp y (HW.out.low hy) hC).mono ?_
    rintro e w' ⟨⟨c, rfl, _, hrow⟩, hb⟩
    refine ⟨⟨c, _, rfl, hrow, cnts_length _ _, fun q hq => ?_⟩, hb⟩
    rw [cnts_get hq, ← (hWl.nd p hp).clk.cnt q hq]
    exact ((hWl.nd p hp).clk.bd p q hp hq).2
  have HC0 : Hid (∀ y k, WRan w1.heap.size y rb g sd sn k → y.cell? ⟨rb, 0, none⟩ = some (.int .i64 (g.n : Int)) ∧ y.cell? ⟨rb, 3, none⟩ = some (.int .i64 g.L)) := fun y k hr => by
    obtain ⟨x, hC, hWl⟩ := hr
    obtain ⟨C, hCi, _⟩ := hC.how
    exact ⟨hCi.c0, hCi.c3⟩
  go_wp2_with fail
  go_loopw [6, 7] (fun a c wr => ∃ k : Nat, k ≤ ops.length ∧ a = .bool true ∧ c = .int .i64 k ∧ WRan w1.heap.size wr rb g sd sn k ∧ Below w.heap.size w wr) (fun _ c _ => ops.length - (intOf c).toNat)
  case atStart => exact ⟨0, Nat.zero_le _, rfl, rfl, HR3.out, HB03.out⟩
  case round =>
    obtain ⟨k, hkn, rfl, rfl, hr, hb⟩ := hrel
    have HR : Hid (WRan w1.heap.size wr rb g sd sn k) := hr
    have HB : Hid (Below w.heap.size w wr) := hb
    clear hr hb
    by_cases hlt : k < ops.length
    · have hki : (k : Int) < (ops.length : Int) := by omega
      obtain ⟨o, hok⟩ : ∃ o, ops[k]? = some o := ⟨ops[k], List.getElem?_eq_getElem _⟩
      obtain ⟨b, off, rfl, hbz, hst⟩ := HS.out.lies k o hok
      have hst' := StpAt.below hst HB.out hbz
      have HSl : Hid (∀ y, Below w.heap.size w y → StpAt y b (off + k * 12) o) := fun y hy => StpAt.below hst hy hbz
      have hoV := (HS.out.ok o (List.mem_of_getElem? hok)).v
      have HStk : Hid _ := HSt.out wr k o hok HB.out HR.out
      unfold Stp.val at HStk
      obtain ⟨t0, t1, t2, t3, t4, t5, t6, t7, t8, t9, t10, t11⟩ := hst'
      obtain ⟨K, a, bb, v, s, f0, f1, f2, f3, f4, fa, fl, fc, fb⟩ := o
      simp only at t0 t1 t2 t3 t4 t5 t6 t7 t8 t9 t10 t11 hoV
      have HPv : Hid _ := fun y => pick_any v (g.n : Int) y hoV (by omega) (by omega)
      have hpb := pk_bd v (g.n : Int) (by omega)
      generalize pk v (g.n : Int) = pp at *
      obtain ⟨p, rfl⟩ : ∃ p : Nat, pp = p := ⟨pp.toNat, by omega⟩
      have hp : p < g.n := by omega
      clear hok hst
      go_wp2_with fail
      refine (show Calls _ _ _ _ _ from HStk.out).mono ?_
      rintro e w4 ⟨rfl, hr4, hb4⟩
      have HR4 : Hid (WRan w1.heap.size w4 rb g sd sn (k + 1)) := hr4
      have HB4 : Hid (Below w.heap.size w w4) := HB.out.trans (hb4.mono HZ1.out)
      have u3 : w4.cell? ⟨b, off + k * 12 + 3, none⟩ = some (.int .i64 v) := (HSl.out w4 HB4.out).2.2.2.1
      obtain ⟨c0, c3⟩ := HC0.out w4 _ HR4.out
      clear hr4 hb4 t0 t1 t2 t3 t4 t5 t6 t7 t8 t9 t10 t11
      go_wp2_with fail
      go_quiet (first | (go_at_call 21; exact Calls.quiet_of_same (HPv.out _)))
      go_wp2_with fail
      refine (show Calls _ _ _ _ _ from HFw.out _ (k + 1) p (by omega) hp (by first | exact HB4.out.drew | exact HB4.out | exact below_drewN HB4.out _) (by first | exact HR4.out | exact HR4.out.low (by first | exact (Below.refl _ _).drew | exact below_drewN (Below.refl _ _) _))).mono ?_
      rintro e w5 ⟨rfl, hb5⟩
      have HB45 : Hid (Below w4.heap.size w4 w5) := bthen (by first | exact (Below.refl _ _).drew | exact Below.refl _ _ | exact below_drewN (Below.refl _ _) _) hb5
      have HB5 : Hid (Below w.heap.size w w5) := bthen HB4.out HB45.out
      have HR5 : Hid (WRan w1.heap.size w5 rb g sd sn (k + 1)) := HR4.out.low HB45.out
      clear hb5 u3 c0 c3
      go_wp2_with fail
      refine (show Calls _ _ _ _ _ from HHd.out w5 (k + 1) p (by omega) hp HB5.out HR5.out).mono ?_
      rintro e w6 ⟨⟨cb, cs, rfl, hrow, hcl, hcs⟩, hb6⟩
      have HRow : Hid (RowI w6 cb cs) := hrow
      have HCs : Hid (cs.length = g.n ∧ ∀ q, q < g.n → cs.getD q 0 ≤ g.L) := ⟨hcl, hcs⟩
      have HB6 : Hid (Below w.heap.size w w6) := bthen HB5.out hb6
      have HR6 : Hid (WRan w1.heap.size w6 rb g sd sn (k + 1)) := HR5.out.low hb6
      clear hrow hcl hcs hb6
      go_wp2_with fail
      go_loopw [11] (fun c wq => ∃ q : Nat, q ≤ g.n ∧ c = .int .i64 q ∧ Below w6.heap.size w6 wq) (fun c _ => g.n - (intOf c).toNat)
      case atStart => exact ⟨0, Nat.zero_le _, rfl, Below.refl _ _⟩
      case round =>
        obtain ⟨q, hqn, rfl, hbq⟩ := hrel
        have HBq : Hid (Below w6.heap.size w6 wr) := hbq
        have HRq : Hid (WRan w1.heap.size wr rb g sd sn (k + 1)) := HR6.out.low hbq
        obtain ⟨c0, c3⟩ := HC0.out wr _ HRq.out
        clear hbq
        by_cases hq : q < g.n
        · have hqi : (q : Int) < (g.n : Int) := by omega
          have hc := RowI.cell (RowI.below HRow.out HBq.out (RowI.lt HRow.out)) (j := q) (by rw [HCs.out.1]; exact hq)
          have hle := HCs.out.2 q hq
          generalize cs.getD q 0 = cq at *
          have hnl : ¬ g.L < cq := by omega
          go_wp2_with fail
          go_quiet (fail)
          go_wp2_with fail
          go_roundw
          case rel => exact ⟨q + 1, by omega, by go_num, by first | exact HBq.out | exact HBq.out.drew | exact below_drewN HBq.out _⟩
          case measure => simp [intOf]; omega
        · have hqn' : q = g.n := by omega
          subst hqn'
          have HB7 : Hid (Below w.heap.size w wr) := bthen HB6.out HBq.out
          go_wp2_with fail
          go_roundw
          case rel => exact ⟨k + 1, by omega, rfl, by go_num, HRq.out, HB7.out⟩
          case measure => simp [intOf]; omega
    · have hkn' : k = ops.length := by omega
      subst hkn'
      go_wp2_with fail
      go_ret
      exact ⟨rfl, HB.out⟩
end Go.Proofs.YtabecbjfamphbaaGreatDoor
