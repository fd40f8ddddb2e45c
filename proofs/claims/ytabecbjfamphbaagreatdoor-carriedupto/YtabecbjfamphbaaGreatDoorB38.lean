/-
  Texts that the proofs of this seat share, joined: Km.
-/
import Derived.Test.YtabecbjfamphbaaGreatDoorB37
/- hearsaykeep: step. -/
namespace Go.Proofs.YtabecbjfamphbaaGreatDoor
open Go.RowKit Go.Stop Go.Extern

theorem tickR_at {g : Gr} {x : MNet} {p : Nat} (hp : p < g.n) : x.tickR g p = ⟨0, 0, x.tick g p⟩ := by
  unfold MNet.tickR
  rw [if_pos (show isNode g.n p = true from decide_eq_true ⟨by omega, by omega⟩)]
  rfl
set_option maxRecDepth 100000 in
set_option maxHeartbeats 1000000 in
theorem step_any (A : Nat → Addr) (base z rb : Nat) (g : Gr) (m : Nat) (o : Stp) (ho : o.Ok) (hg : g.Ok) (hm : m + 1 ≤ 10000000) (w : World) (hw : Sl w A base) (hz : base ≤ z) (h : Ran z w rb g m) :
    Calls Tryz.prog 22 #[.pointer (some ⟨rb, 0, none⟩), o.val] w fun e w' => e = .returned (.bool true) ∧ Ran z w' rb g (m + 1) ∧ Below z w w' := by
  have HPc : Hid (∀ y, Below w.heap.size w y → Calls Tryz.prog 46 #[.pointer (some ⟨rb, 0, none⟩), o.val] y fun e w' => e = .returned (.bool true) ∧ Ran z w' rb g (m + 1) ∧ Below z y w') := fun y hy => packet_any A base z rb g m o ho hg hm y (hw.low hy) hz (by
    obtain ⟨x, sd, sn, bag, said, hC, hR⟩ := h
    exact ⟨x, sd, sn, bag, said, hC.low hy, hR⟩)
  obtain ⟨K, a, b, v, s, f0, f1, f2, f3, f4, fa, fl, fc, fb⟩ := o
  obtain ⟨hK, ha, hb, hv⟩ := ho
  simp only at hK ha hb hv
  obtain ⟨x, sd, sn, bag, said, hC, hR⟩ := h
  have HW : Hid _ := hw
  have HC : Hid _ := hC
  have HR : Hid _ := hR
  obtain ⟨C, hCi, hCz⟩ := hC.how
  have HCi : Hid (Circ w rb g x sd sn C) := hCi
  have HCz : Hid _ := hCz
  have c4 := hCi.c4
  have c0 := hCi.c0
  have hn := hg.n
  have HX : Hid _ := hR.ok hg (by omega)
  have hpb := pk_bd a (g.n : Int) (by omega)
  have hjb := pk_bd K 7 (by omega)
  have HPk : Hid _ := fun y => pick_any a (g.n : Int) y ha (by omega) (by omega)
  have HPK : Hid _ := fun y => pick_any K 7 y hK (by omega) (by omega)
  generalize pk a (g.n : Int) = pp at *
  generalize pk K 7 = j at *
  obtain ⟨p, rfl⟩ : ∃ p : Nat, pp = p := ⟨pp.toNat, by omega⟩
  have hp : p < g.n := by omega
  unfold Stp.val at HPc ⊢
  clear hw hC hR hCi hCz
  go_enter Tryz.func22, Tryz.ntmps22
  have HBx : Hid (∀ (y : World), Below (w.alloc (.cells #[.int .i64 K, .int .i64 a, .int .i64 b, .int .i64 v, .string s, .int .i64 f0, .int .i64 f1, .int .i64 f2, .int .i64 f3, .int .i64 f4, .slice fa fl fc, .string fb] 47)).heap.size (w.alloc (.cells #[.int .i64 K, .int .i64 a, .int .i64 b, .int .i64 v, .string s, .int .i64 f0, .int .i64 f1, .int .i64 f2, .int .i64 f3, .int .i64 f4, .slice fa fl fc, .string fb] 47)) y → y.cell? ⟨w.heap.size, 0, none⟩ = some (.int .i64 K) ∧ y.cell? ⟨w.heap.size, 1, none⟩ = some (.int .i64 a) ∧ y.cell? ⟨w.heap.size, 2, none⟩ = some (.int .i64 b) ∧ y.cell? ⟨w.heap.size, 3, none⟩ = some (.int .i64 v) ∧ y.cell? ⟨w.heap.size, 4, none⟩ = some (.string s) ∧ y.cell? ⟨w.heap.size, 5, none⟩ = some (.int .i64 f0) ∧ y.cell? ⟨w.heap.size, 6, none⟩ = some (.int .i64 f1) ∧ y.cell? ⟨w.heap.size, 7, none⟩ = some (.int .i64 f2) ∧ y.cell? ⟨w.heap.size, 8, none⟩ = some (.int .i64 f3) ∧ y.cell? ⟨w.heap.size, 9, none⟩ = some (.int .i64 f4) ∧ y.cell? ⟨w.heap.size, 10, none⟩ = some (.slice fa fl fc) ∧ y.cell? ⟨w.heap.size, 11, none⟩ = some (.string fb)) := fun y hy => by
    have hz : w.heap.size < (w.alloc (.cells #[.int .i64 K, .int .i64 a, .int .i64 b, .int .i64 v, .string s, .int .i64 f0, .int .i64 f1, .int .i64 f2, .int .i64 f3, .int .i64 f4, .slice fa fl fc, .string fb] 47)).heap.size := by simp
    have e : ∀ i, y.cell? ⟨w.heap.size, i, none⟩ = #[Value.int .i64 K, .int .i64 a, .int .i64 b, .int .i64 v, .string s, .int .i64 f0, .int .i64 f1, .int .i64 f2, .int .i64 f3, .int .i64 f4, .slice fa fl fc, .string fb][i]? := fun i => (hy.cell (p := ⟨w.heap.size, i, none⟩) hz).trans (cell_of_row _ _ i _ _ (0, 0) (heap_alloc_new _ _))
    exact ⟨e 0, e 1, e 2, e 3, e 4, e 5, e 6, e 7, e 8, e 9, e 10, e 11⟩
  have HB0 : Hid _ := below1 w (.cells #[.int .i64 K, .int .i64 a, .int .i64 b, .int .i64 v, .string s, .int .i64 f0, .int .i64 f1, .int .i64 f2, .int .i64 f3, .int .i64 f4, .slice fa fl fc, .string fb] 47)
  have c4' := (HB0.out.cell (p := ⟨rb, 4, none⟩) (lt_of_cell c4)).trans c4
  have c0' := (HB0.out.cell (p := ⟨rb, 0, none⟩) (lt_of_cell c0)).trans c0
  go_wp2_with fail
  have HqX : Hid (w.heap.size < (w.alloc (.cells #[.int .i64 K, .int .i64 a, .int .i64 b, .int .i64 v, .string s, .int .i64 f0, .int .i64 f1, .int .i64 f2, .int .i64 f3, .int .i64 f4, .slice fa fl fc, .string fb] 47)).heap.size) := by show _ < _; simp
  generalize w.alloc (.cells #[.int .i64 K, .int .i64 a, .int .i64 b, .int .i64 v, .string s, .int .i64 f0, .int .i64 f1, .int .i64 f2, .int .i64 f3, .int .i64 f4, .slice fa fl fc, .string fb] 47) = X at *
  have HCx : Hid (Circ X rb g x sd sn C) := HCi.out.low HB0.out
  have HWx : Hid (Sl X A base) := HW.out.low HB0.out
  have HZw : Hid (z ≤ w.heap.size) := HC.out.le
  have HBz : Hid (Below z w X) := HB0.out.mono HZw.out
  have HFb : Hid (∀ k, C.Fx k → base ≤ k) := fun k hk => Nat.le_trans hz (HCz.out k (Or.inr (Or.inl hk)))
  have HBt : Hid (∀ y, Below z X y → Below z w y) := fun y hy => HBz.out.trans hy
  have HCX : Hid (CircZ z X rb g x sd sn) := ⟨C, HCx.out, HCz.out⟩
  refine (show Calls _ _ _ _ _ from HPK.out _).mono ?_
  rintro e w1 ⟨rfl, hw1⟩
  subst hw1
  obtain ⟨b0, b1, b2, b3, b4, b5, b6, b7, b8, b9, b10, b11⟩ := HBx.out w1 (Below.refl _ _)
  by_cases h0 : j = 0
  · subst h0
    have HSy : Hid (∀ y, Below w1.heap.size w1 y → Calls Tryz.prog 20 #[.pointer (some ⟨rb, 0, none⟩), .int .i64 (p : Int), .string s, .bool false] y fun e w' => e = .returned (.bool true) ∧ Below z y w' ∧ Ran z w' rb g (m + 1)) := fun y hy => by
      have hsay := HR.out.say hg hp s
      have hx' : (x.sayR g p s).x.Ok g := by
        by_cases hk : (x.sayR g p s).k = 0
        · exact (hsay.1 hk 0).ok hg (by omega)
        · exact (hsay.2 hk).ok hg (by omega)
      have hln : sd.length ≤ 10000000 := by have h1 := HR.out.len; have h2 := HR.out.short; omega
      refine (says_any A base z rb g x sd sn p s false hg HX.out hx' hp hln (HR.out.view hp) (fun h => by cases h) y (HWx.out.low hy) hz (HCX.out.low hy)).mono ?_
      rintro e w' ⟨rfl, hb, h⟩
      refine ⟨rfl, hb, ?_⟩
      rcases h with ⟨hk, pb, hc⟩ | ⟨hk, hc⟩
      · exact ⟨_, _, _, _, _, hc, hsay.1 hk pb⟩
      · exact ⟨_, _, _, _, _, hc, hsay.2 hk⟩
    go_wp2_with fail
    go_region_with (first | (go_at_call 21; refine (show Calls _ _ _ _ _ from HPk.out _).mono ?_; rintro e w2 ⟨rfl, rfl⟩) | (go_at_call 20; refine (show Calls _ _ _ _ _ from HSy.out _ (by first | exact Below.refl _ _ | exact (Below.refl _ _).drew | exact below_drewN (Below.refl _ _) _)).mono ?_; rintro e w3 ⟨rfl, hb3, hr3⟩; have HB3 : Hid (Below z w w3) := HBt.out _ (by first | exact hb3 | exact (Below.refl _ _).drew.trans hb3 | exact (below_drewN (Below.refl _ _) _).trans hb3); have HR3 : Hid _ := hr3; clear hb3 hr3))
    all_goals
      go_wp2_with fail
      go_ret
      exact ⟨rfl, HR3.out, HB3.out⟩
  · by_cases h1 : j = 1
    · subst h1
      have HRn : Hid _ := HR.out.tick hg hp
      have HTk : Hid (∀ y, Below w1.heap.size w1 y → Calls Tryz.prog 43 #[.pointer (some ⟨C.fb, 0, none⟩), .int .i64 (p : Int)] y fun e w' => e = .returned (.int .i64 0) ∧ NDid y w' C.fb g C.Fx (x.tick g p)) := fun y hy => by
        have h1 := netTick A base C.fb g x C.Fx p hg HX.out y (HWx.out.low hy) HFb.out (HCx.out.net.low hy)
        rw [tickR_at hp] at h1
        exact h1
      have HNf : Hid (¬ C.Fx rb ∧ ¬ C.Fx w.heap.size) := ⟨fun h => (HCx.out.sep rb h).1 rfl, fun h => by have := HCi.out.lt (Or.inr (Or.inl h)); omega⟩
      go_wp2_with fail
      go_region_held3 (fun y => y.cell? ⟨rb, 4, none⟩ = some (.pointer (some ⟨C.fb, 0, none⟩)) ∧ y.cell? ⟨w.heap.size, 1, none⟩ = some (.int .i64 a) ∧ y.cell? ⟨rb, 0, none⟩ = some (.int .i64 (g.n : Int))) (first | (exact ⟨c4', b1, c0'⟩) | (exact HK3.out) | go_keep)
        (first | (go_at_call 21; refine (show Calls _ _ _ _ _ from HPk.out _).mono ?_; rintro e w2 ⟨rfl, rfl⟩) | (go_at_call 43; refine (show Calls _ _ _ _ _ from HTk.out _ (by first | exact (Below.refl _ _).drew | exact Below.refl _ _ | exact below_drewN (Below.refl _ _) _)).mono ?_; rintro e w3 ⟨rfl, hd3⟩; have HD3 : Hid (NDid w1.drew w3 C.fb g C.Fx (x.tick g p)) := hd3; have HK3 : Hid (w3.cell? ⟨rb, 4, none⟩ = some (.pointer (some ⟨C.fb, 0, none⟩)) ∧ w3.cell? ⟨w.heap.size, 1, none⟩ = some (.int .i64 a) ∧ w3.cell? ⟨rb, 0, none⟩ = some (.int .i64 (g.n : Int))) := ⟨hd3.rest.cell c4' HNf.out.1, hd3.rest.cell b1 HNf.out.2, hd3.rest.cell c0' HNf.out.1⟩; clear hd3))
      obtain ⟨hc4, hb4⟩ := CircZ.did (HCx.out.low (Below.refl _ _).drew) HCz.out HD3.out
      have HC4 : Hid _ := hc4
      have HB4 : Hid _ := HBt.out _ ((Below.refl _ _).drew.trans hb4)
      clear hc4 hb4
      go_wp2_with fail
      go_ret
      exact ⟨rfl, ⟨_, _, _, _, _, HC4.out, HRn.out⟩, HB4.out⟩
    · by_cases h6 : j = 6
      · subst h6
        have hln : sd.length ≤ 10000000 := by have h1 := HR.out.len; have h2 := HR.out.short; omega
        have HLk : Hid _ := looked_any A base z rb g x sd sn hg HX.out hln HR.out.seen HR.out.caused w1 HWx.out hz HCX.out
        go_wp2_with fail
        refine (show Calls _ _ _ _ _ from HLk.out).mono ?_
        rintro e w2 ⟨rfl, ⟨sn', hc2, hs2⟩, hb2⟩
        have HC2 : Hid _ := hc2
        have HS2 : Hid (Seen x sn') := hs2
        have HB2 : Hid _ := HBt.out _ hb2
        clear hc2 hs2 hb2
        go_wp2_with fail
        go_ret
        exact ⟨rfl, ⟨_, _, _, _, _, HC2.out, HR.out.look HS2.out⟩, HB2.out⟩
      · have g0 : (j == 0) = false := by simp [h0]
        have g1 : (j == 1) = false := by simp [h1]
        have g6 : (j == 6) = false := by simp [h6]
        go_wp2_with fail
        refine (show Calls _ _ _ _ _ from HPc.out _ HB0.out).mono ?_
        rintro e w2 ⟨rfl, hr2, hb2⟩
        have HR2 : Hid _ := hr2
        have HB2 : Hid _ := HBt.out _ hb2
        clear hr2 hb2
        go_wp2_with fail
        go_ret
        exact ⟨rfl, HR2.out, HB2.out⟩
end Go.Proofs.YtabecbjfamphbaaGreatDoor
