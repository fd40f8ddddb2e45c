/-
  Texts that the proofs of this seat share, joined: Rc.
-/
import Derived.Test.YtabecbjfamphbaaGreatDoorERb
import Derived.Test.YtabecbjfamphbaaGreatDoorEKw
import Derived.Test.YtabecbjfamphbaaGreatDoorB39
/- hearsaykeep: Settles. -/
namespace Go.Proofs.YtabecbjfamphbaaGreatDoor
open Go.RowKit Go.Stop Go.Extern

theorem sayR_other {g : Gr} {x : MNet} {p q : Nat} (hp : p < g.n) (s : ByteArray) (h : q ≠ p) : ((x.sayR g p s).x).nd q = x.nd q := by
  rw [sayR_eq hp]
  show (if q = p then _ else x.nd q) = x.nd q
  rw [if_neg h]
theorem sayK_free {g : Gr} {s : NS} {p k : Nat} (hg : g.Ok) (h : g.low s.vs p = vw s.vs p p) : s.sayK g p k ≠ 4 := by
  have := hg.W
  unfold NS.sayK Proofs.YtabecbjfamphbaaGreatDoor.sayK
  split
  · decide
  · split
    · decide
    · rw [if_neg (by omega)]
      decide
/-- A circle in which the first k nodes have said a word again. -/
structure Again (z : Nat) (w : World) (rb : Nat) (g : Gr) (x : MNet) (sn : List Sn) (m k : Nat) (y : MNet) (sd : List Sd) (bag : List (Nat × Msg)) (said : List Fm) : Prop where
  circ : CircZ z w rb g y sd sn
  run : Run g y sd sn bag said (m + k)
  rest : ∀ q, k ≤ q → y.nd q = x.nd q
  len : sd.length ≤ 200000 + k
theorem Below.of_le {z z' : Nat} {w y : World} (h : Below z w y) (hz : z' ≤ z) : Below z' w y := h.mono hz
set_option maxRecDepth 100000 in
set_option maxHeartbeats 2000000 in
theorem settles_any (A : Nat → Addr) (base : Nat) (N W B L : Int) (ad : Option Addr) (cap : Nat) (ops : List Stp) (ao : Option Addr) (lo co : Nat) (vs : List Int) (hN : I64 N) (hW : I64 W) (hB : I64 B) (hL : I64 L) (hm : ops.length ≤ 150000) (hvs : ∀ v ∈ vs, I64 v) (w : World) (hw : Sl w A base) (hbz : base ≤ w.heap.size) (hs : Scr w w.heap.size ad ops) (hord : Ints w ao lo vs) :
    Calls Tryz.prog 6 #[.agg #[.int .i64 N, .int .i64 W, .int .i64 B, .int .i64 L], .slice ad ops.length cap, .slice ao lo co] w fun e w' => e = .returned (.bool true) ∧ Below w.heap.size w w' := by
  have HFit : Hid _ := fun y => fit_g N W B L y hN hW hB hL
  have hg := fitG_ok N W B L
  have HW : Hid _ := hw
  have HS : Hid _ := hs
  have HZ : Hid (base ≤ w.heap.size) := hbz
  have HV : Hid (∀ v ∈ vs, I64 v) := hvs
  have HO : Hid (∀ y, Below w.heap.size w y → Ints y ao lo vs) := fun y hy => hord.below hy
  generalize fitG N W B L = g at *
  have HG : Hid g.Ok := hg
  have hn8 := hg.n.2
  have HMet : Hid (∀ y, Below w.heap.size w y → Calls Tryz.prog 12 #[.agg #[.int .i64 (g.n : Int), .int .i64 g.W, .int .i64 g.B, .int .i64 g.L]] y fun e w' => (∃ rb, e = .returned (.pointer (some ⟨rb, 0, none⟩)) ∧ Ran y.heap.size w' rb g 0) ∧ Below y.heap.size y w') := fun y hy => by
    refine (met_any A base g hg y (hw.low hy)).mono ?_
    rintro e w' ⟨⟨rb, rfl, hc⟩, hb⟩
    exact ⟨⟨rb, rfl, _, _, _, _, _, hc, Run.new hg _ (fun s hs => by rw [List.eq_of_mem_replicate hs])⟩, hb⟩
  clear hw hs hbz hg hord hvs
  go_enter Tryz.func6, Tryz.ntmps6
  go_wp2_with fail
  have HX : Hid _ := below1 w (.cells #[.int .i64 N, .int .i64 W, .int .i64 B, .int .i64 L] 26)
  generalize w.alloc (.cells #[.int .i64 N, .int .i64 W, .int .i64 B, .int .i64 L] 26) = X at *
  refine (show Calls _ _ _ _ _ from HFit.out _).mono ?_
  rintro e w1 ⟨rfl, hb1⟩
  have HB1 : Hid (Below w.heap.size w w1) := bthen HX.out hb1
  clear hb1
  go_wp2_with fail
  refine (show Calls _ _ _ _ _ from HMet.out _ HB1.out).mono ?_
  rintro e w2 ⟨⟨rb, rfl, hr2⟩, hb2⟩
  have HR2 : Hid (Ran w1.heap.size w2 rb g 0) := hr2
  have HB2 : Hid (Below w1.heap.size w1 w2) := hb2
  have HB02 : Hid (Below w.heap.size w w2) := bthen HB1.out hb2
  clear hr2 hb2
  go_wp2_with fail
  refine (first_any A base w2 (HW.out.low HB02.out) (Nat.le_trans HZ.out HB02.out.size)).mono ?_
  rintro e w3 ⟨rfl, hb3⟩
  have HR3 : Hid (Ran w1.heap.size w3 rb g 0) := Ran.low HR2.out hb3
  have HB3 : Hid (Below w1.heap.size w1 w3) := bthen HB2.out hb3
  have HB03 : Hid (Below w.heap.size w w3) := bthen HB02.out hb3
  clear hb3
  go_wp2_with fail
  have hz1 : base ≤ w1.heap.size := Nat.le_trans HZ.out HB1.out.size
  refine (plays_any A base w1.heap.size rb g 0 ad cap ops HG.out (by omega) w3 (HW.out.low HB03.out) hz1 (HS.out.below HB03.out HB1.out.size) HR3.out).mono ?_
  rintro e w4 ⟨rfl, hr4, hb4⟩
  have HB4 : Hid (Below w.heap.size w w4) := bthen HB1.out (HB3.out.trans hb4)
  have HZ1 : Hid (w.heap.size ≤ w1.heap.size) := HB1.out.size
  obtain ⟨x, sd, sn, bag, said, hC, hR⟩ := hr4
  have hfew := hR.few
  have hshort := hR.short
  have hsl := hR.len
  have HC4 : Hid (CircZ w1.heap.size w4 rb g x sd sn) := hC
  have HR4 : Hid (Run g x sd sn bag said (0 + ops.length)) := hR
  clear hC hR hb4
  go_wp2_with fail
  refine (round_any A base w1.heap.size rb g x sd sn bag said (0 + ops.length) ao lo co vs HG.out (by omega) HV.out w4 (HW.out.low HB4.out) hz1 (fun y hy => HO.out y (HB4.out.trans (hy.mono HZ1.out))) HC4.out HR4.out).mono ?_
  rintro e w5 ⟨rfl, ⟨x5, m5, hC5, hR5, hm5⟩, hb5⟩
  have HB5 : Hid (Below w.heap.size w w5) := HB4.out.trans (hb5.mono HZ1.out)
  have HC5 : Hid (CircZ w1.heap.size w5 rb g x5 sd sn) := hC5
  have HR5 : Hid (Rnd g x.nd x5 sd sn [] said m5) := hR5
  clear hC5 hR5 hb5
  go_wp2_with fail
  refine (agreed_any A base w1.heap.size rb g x5 sd sn HG.out (HR5.out.run.ok2 HG.out (by omega)) (by omega) HR5.out.run.seen HR5.out.run.caused HR5.out.end1.1 w5 (HW.out.low HB5.out) hz1 HC5.out).mono ?_
  rintro e w6 ⟨rfl, ⟨sn6, hC6, hs6⟩, hb6⟩
  have HB6 : Hid (Below w.heap.size w w6) := HB5.out.trans (hb6.mono HZ1.out)
  have HC6 : Hid (CircZ w1.heap.size w6 rb g x5 sd sn6) := hC6
  have HR6 : Hid (Run g x5 sd sn6 [] said (m5 + 1)) := HR5.out.run.look hs6
  clear hC6 hs6 hb6
  go_wp2_with fail
  refine (round_any A base w1.heap.size rb g x5 sd sn6 [] said (m5 + 1) ao lo co vs HG.out (by simp; omega) HV.out w6 (HW.out.low HB6.out) hz1 (fun y hy => HO.out y (HB6.out.trans (hy.mono HZ1.out))) HC6.out HR6.out).mono ?_
  rintro e w7 ⟨rfl, ⟨x7, m7, hC7, hR7, hm7⟩, hb7⟩
  simp only [List.length_nil, Nat.zero_add] at hm7
  have HB7 : Hid (Below w.heap.size w w7) := HB6.out.trans (hb7.mono HZ1.out)
  have HC7 : Hid (CircZ w1.heap.size w7 rb g x7 sd sn6) := hC7
  have HR7 : Hid (Rnd g x5.nd x7 sd sn6 [] said m7) := hR7
  have HE7 : Hid _ := hR7.end2 HR5.out.end1.2
  clear hC7 hR7 hb7
  go_wp2_with fail
  refine (empty_any A base w1.heap.size rb g x7 sd sn6 HG.out (HR7.out.run.ok2 HG.out (by omega)) (fun p hp => (HE7.out p hp).1) w7 (HW.out.low HB7.out) HC7.out).mono ?_
  rintro e w8 ⟨rfl, hb8⟩
  have HB8 : Hid (Below w.heap.size w w8) := bthen HB7.out hb8
  have HA8 : Hid (Again w1.heap.size w8 rb g x7 sn6 m7 0 x7 sd [] said) := ⟨HC7.out.low hb8, HR7.out.run, fun _ _ => rfl, by omega⟩
  clear hb8
  go_wp2_with fail
  go_loopw [8, 9] (fun a c wr => ∃ k : Nat, k ≤ g.n ∧ a = .bool true ∧ c = .int .i64 k ∧ (∃ y sd' bag' said', Again w1.heap.size wr rb g x7 sn6 m7 k y sd' bag' said') ∧ Below w.heap.size w wr) (fun _ c _ => g.n - (intOf c).toNat)
  case atStart => exact ⟨0, Nat.zero_le _, rfl, rfl, ⟨_, _, _, _, HA8.out⟩, HB8.out⟩
  case round =>
    obtain ⟨k, hkn, rfl, rfl, ⟨y, sd', bag', said', hA⟩, hb⟩ := hrel
    have HA : Hid _ := hA
    have HB : Hid (Below w.heap.size w wr) := hb
    obtain ⟨C, hCi, hCz⟩ := hA.circ.how
    have c0 := hCi.c0
    clear hA hb hCi hCz
    by_cases hlt : k < g.n
    · have hki : (k : Int) < (g.n : Int) := by omega
      have HSy : Hid (Calls Tryz.prog 20 #[.pointer (some ⟨rb, 0, none⟩), .int .i64 (k : Int), .string ⟨#[]⟩, .bool true] wr fun e w' => e = .returned (.bool true) ∧ Below w1.heap.size wr w' ∧ ∃ y sd' bag' said', Again w1.heap.size w' rb g x7 sn6 m7 (k + 1) y sd' bag' said') := by
        have hA := HA.out
        have hal := hA.len
        have hsay := hA.run.say HG.out hlt ⟨#[]⟩
        have hx' : (y.sayR g k ⟨#[]⟩).x.Ok g := by
          by_cases hk : (y.sayR g k ⟨#[]⟩).k = 0
          · exact (hsay.1 hk 0).ok2 HG.out (by omega)
          · exact (hsay.2 hk).ok2 HG.out (by omega)
        have hE := (HE7.out k hlt).2
        rw [← hA.rest k (Nat.le_refl _)] at hE
        refine (says_any A base w1.heap.size rb g y sd' sn6 k ⟨#[]⟩ true HG.out (hA.run.ok2 HG.out (by omega)) hx' hlt (by omega) (hA.run.view hlt) (fun _ => sayK_free HG.out hE) wr (HW.out.low HB.out) hz1 hA.circ).mono ?_
        rintro e w' ⟨rfl, hb, h⟩
        refine ⟨rfl, hb, ?_⟩
        have hrest : ∀ q, k + 1 ≤ q → ((y.sayR g k ⟨#[]⟩).x).nd q = x7.nd q := fun q hq => by rw [sayR_other hlt _ (by omega), hA.rest q (by omega)]
        rcases h with ⟨hk, pb, hc⟩ | ⟨hk, hc⟩
        · exact ⟨_, _, _, _, hc, hsay.1 hk pb, hrest, by simp; omega⟩
        · exact ⟨_, _, _, _, hc, hsay.2 hk, hrest, by omega⟩
      go_wp2_with fail
      refine (show Calls _ _ _ _ _ from HSy.out).mono ?_
      rintro e w9 ⟨rfl, hb9, hA9⟩
      have HB9 : Hid (Below w.heap.size w w9) := HB.out.trans (hb9.mono HZ1.out)
      have HA9 : Hid _ := hA9
      clear hb9 hA9
      go_wp2_with fail
      go_roundw
      case rel => exact ⟨k + 1, by omega, rfl, by go_num, HA9.out, HB9.out⟩
      case measure => simp [intOf]; omega
    · have hkn' : k = g.n := by omega
      subst hkn'
      go_wp2_with fail
      go_ret
      exact ⟨rfl, HB.out⟩
end Go.Proofs.YtabecbjfamphbaaGreatDoor
