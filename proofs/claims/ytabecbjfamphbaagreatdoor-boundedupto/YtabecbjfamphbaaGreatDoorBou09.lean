/-
  Texts that the proofs of this seat share, joined: Wd.
-/
import Derived.Test.YtabecbjfamphbaaGreatDoorBou08
import Derived.Test.YtabecbjfamphbaaGreatDoorB38
/- hearsaykeep: wild. -/
namespace Go.Proofs.YtabecbjfamphbaaGreatDoor
open Go.RowKit Go.Stop Go.Extern

/-- A net behind m wild steps, in memory. -/
def WRan (z : Nat) (w : World) (rb : Nat) (g : Gr) (sd : List Sd) (sn : List Sn) (m : Nat) : Prop := ∃ x, CircZ z w rb g x sd sn ∧ Wld g x m
theorem WRan.low {z : Nat} {w y : World} {rb : Nat} {g : Gr} {sd : List Sd} {sn : List Sn} {m : Nat} (h : WRan z w rb g sd sn m) (hb : Below w.heap.size w y) : WRan z y rb g sd sn m := by
  obtain ⟨x, h1, h2⟩ := h
  exact ⟨x, h1.low hb, h2⟩
set_option maxRecDepth 100000 in
set_option maxHeartbeats 4000000 in
theorem wild_any (A : Nat → Addr) (base z rb : Nat) (g : Gr) (sd : List Sd) (sn : List Sn) (m : Nat) (o : Stp) (ho : o.Ok) (hg : g.Ok) (hm : m + 1 ≤ 10000000) (w : World) (hf : o.FOk w) (hw : Sl w A base) (hT : ErrT w) (hz : base ≤ z) (h : WRan z w rb g sd sn m) :
    Calls Tryz.prog 24 #[.pointer (some ⟨rb, 0, none⟩), o.val] w fun e w' => e = .returned (.bool true) ∧ WRan z w' rb g sd sn (m + 1) ∧ Below z w w' := by
  obtain ⟨x, hC, hWl⟩ := h
  have HFg : Hid (∀ y, Below w.heap.size w y → Calls Tryz.prog 51 #[.pointer (some ⟨rb, 0, none⟩), o.val] y fun e w' => e = .returned (.bool true) ∧ WRan z w' rb g sd sn (m + 1) ∧ Below z y w') := fun y hy => (forged_any A base z rb g x sd sn m o ho hg hm hWl y (hf.below hy) (hw.low hy) (hT.below hy) hz (hC.low hy))
  obtain ⟨K, a, b, v, s, f0, f1, f2, f3, f4, fa, fl, fc, fb⟩ := o
  obtain ⟨hK, ha, hb, hv⟩ := ho
  simp only at hK ha hb hv
  have HW : Hid (Sl w A base) := hw
  have HC : Hid (CircZ z w rb g x sd sn) := hC
  have HWl : Hid (Wld g x m) := hWl
  obtain ⟨C, hCi, hCz⟩ := hC.how
  have HCi : Hid (Circ w rb g x sd sn C) := hCi
  have HCz : Hid (∀ k, C.foot rb sd sn k → z ≤ k) := hCz
  have c4 := hCi.c4
  have c0 := hCi.c0
  have hn := hg.n
  have HX : Hid (x.Ok g) := hWl.ok (by omega)
  have hlen : x.bag.length ≤ 100000000000 := HX.out.len
  have hpb := pk_bd a (g.n : Int) (by omega)
  have hjb := pk_bd K 5 (by omega)
  have HPk : Hid _ := fun y => pick_any a (g.n : Int) y ha (by omega) (by omega)
  have HPK : Hid _ := fun y => pick_any K 5 y hK (by omega) (by omega)
  have HA : Hid (I64 a) := ha
  generalize pk a (g.n : Int) = pp at *
  generalize pk K 5 = j at *
  obtain ⟨p, rfl⟩ : ∃ p : Nat, pp = p := ⟨pp.toNat, by omega⟩
  have hp : p < g.n := by omega
  unfold Stp.val at HFg ⊢
  clear hw hC hWl hCi hCz hf hT ha hb hv hK
  go_enter Tryz.func24, Tryz.ntmps24
  have HBx : Hid (∀ (y : World), Below (w.alloc (.cells #[.int .i64 K, .int .i64 a, .int .i64 b, .int .i64 v, .string s, .int .i64 f0, .int .i64 f1, .int .i64 f2, .int .i64 f3, .int .i64 f4, .slice fa fl fc, .string fb] 47)).heap.size (w.alloc (.cells #[.int .i64 K, .int .i64 a, .int .i64 b, .int .i64 v, .string s, .int .i64 f0, .int .i64 f1, .int .i64 f2, .int .i64 f3, .int .i64 f4, .slice fa fl fc, .string fb] 47)) y → y.cell? ⟨w.heap.size, 0, none⟩ = some (.int .i64 K) ∧ y.cell? ⟨w.heap.size, 1, none⟩ = some (.int .i64 a) ∧ y.cell? ⟨w.heap.size, 2, none⟩ = some (.int .i64 b) ∧ y.cell? ⟨w.heap.size, 3, none⟩ = some (.int .i64 v) ∧ y.cell? ⟨w.heap.size, 4, none⟩ = some (.string s) ∧ y.cell? ⟨w.heap.size, 5, none⟩ = some (.int .i64 f0) ∧ y.cell? ⟨w.heap.size, 6, none⟩ = some (.int .i64 f1) ∧ y.cell? ⟨w.heap.size, 7, none⟩ = some (.int .i64 f2) ∧ y.cell? ⟨w.heap.size, 8, none⟩ = some (.int .i64 f3) ∧ y.cell? ⟨w.heap.size, 9, none⟩ = some (.int .i64 f4) ∧ y.cell? ⟨w.heap.size, 10, none⟩ = some (.slice fa fl fc) ∧ y.cell? ⟨w.heap.size, 11, none⟩ = some (.string fb)) := fun y hy => by
    have hz : w.heap.size < (w.alloc (.cells #[.int .i64 K, .int .i64 a, .int .i64 b, .int .i64 v, .string s, .int .i64 f0, .int .i64 f1, .int .i64 f2, .int .i64 f3, .int .i64 f4, .slice fa fl fc, .string fb] 47)).heap.size := by simp
    have e : ∀ i, y.cell? ⟨w.heap.size, i, none⟩ = #[Value.int .i64 K, .int .i64 a, .int .i64 b, .int .i64 v, .string s, .int .i64 f0, .int .i64 f1, .int .i64 f2, .int .i64 f3, .int .i64 f4, .slice fa fl fc, .string fb][i]? := fun i => (hy.cell (p := ⟨w.heap.size, i, none⟩) hz).trans (cell_of_row _ _ i _ _ (0, 0) (heap_alloc_new _ _))
    exact ⟨e 0, e 1, e 2, e 3, e 4, e 5, e 6, e 7, e 8, e 9, e 10, e 11⟩
  have HB0 : Hid (Below w.heap.size w (w.alloc (.cells #[.int .i64 K, .int .i64 a, .int .i64 b, .int .i64 v, .string s, .int .i64 f0, .int .i64 f1, .int .i64 f2, .int .i64 f3, .int .i64 f4, .slice fa fl fc, .string fb] 47))) := below1 w _
  have c4' := (HB0.out.cell (p := ⟨rb, 4, none⟩) (lt_of_cell c4)).trans c4
  have c0' := (HB0.out.cell (p := ⟨rb, 0, none⟩) (lt_of_cell c0)).trans c0
  go_wp2_with fail
  generalize w.alloc (.cells #[.int .i64 K, .int .i64 a, .int .i64 b, .int .i64 v, .string s, .int .i64 f0, .int .i64 f1, .int .i64 f2, .int .i64 f3, .int .i64 f4, .slice fa fl fc, .string fb] 47) = X at *
  have HCx : Hid (Circ X rb g x sd sn C) := HCi.out.low HB0.out
  have HWx : Hid (Sl X A base) := HW.out.low HB0.out
  have HZw : Hid (z ≤ w.heap.size) := HC.out.le
  have HBz : Hid (Below z w X) := HB0.out.mono HZw.out
  have HFb : Hid (∀ k, C.Fx k → base ≤ k) := fun k hk => Nat.le_trans hz (HCz.out k (Or.inr (Or.inl hk)))
  have HBt : Hid (∀ y, Below z X y → Below z w y) := fun y hy => HBz.out.trans hy
  have HCX : Hid (CircZ z X rb g x sd sn) := ⟨C, HCx.out, HCz.out⟩
  have HWX : Hid (WRan z X rb g sd sn (m + 1)) := ⟨x, HCX.out, HWl.out.more⟩
  refine (netLeft C.fb g x C.Fx X HCx.out.net).mono ?_
  rintro e w1 ⟨rfl, hw1⟩
  subst hw1
  clear c4 c0
  obtain ⟨b0, b1, b2, b3, b4, b5, b6, b7, b8, b9, b10, b11⟩ := HBx.out w1 (Below.refl _ _)
  have HQ : Hid (w.heap.size < w1.heap.size ∧ rb < w1.heap.size) := ⟨lt_of_cell b0, lt_of_cell c0'⟩
  have HNf : Hid (¬ C.Fx rb ∧ ¬ C.Fx w.heap.size) := ⟨fun h => (HCx.out.sep rb h).1 rfl, fun h => by have := HCi.out.lt (Or.inr (Or.inl h)); omega⟩
  go_wp2_with fail
  refine (show Calls _ _ _ _ _ from HPK.out _).mono ?_
  rintro e w2 ⟨rfl, hw2⟩
  subst hw2
  by_cases h0 : j = 0
  · subst h0
    have c2 := HCx.out.c2
    obtain ⟨Bn, hBn⟩ : ∃ Bn : Nat, g.B = (Bn : Int) := ⟨g.B.toNat, by have := hg.B; omega⟩
    have hus : (upT s Bn).size ≤ Bn := upT_size s Bn
    have HUp : Hid _ := fun y => upTo_any s Bn y
    have HSF : Hid _ := say_facts hp (HX.out.nd p hp) (upT s Bn)
    have HWs : Hid (Wld g (x.sayR g p (upT s Bn)).x (m + 1)) := HWl.out.say hg hp _
    have HCp : Hid ((cnts g.n (x.nd p).hs).getD p 0 = vw (x.nd p).vs p p) := by
      show _ = _
      rw [cnts_get hp, (HX.out.nd p hp).clk.cnt p hp]
    have hPb := (HX.out.nd p hp).clk.bd p p hp hp
    have hLb := hg.L
    have HSy : Hid (∀ y, Below w2.heap.size w2 y → Calls Tryz.prog 40 #[.pointer (some ⟨C.fb, 0, none⟩), .int .i64 (p : Int), .string (upT s Bn)] y fun e w' => e = .returned (.tuple #[.int .i64 (x.sayR g p (upT s Bn)).q, .int .i64 ((x.sayR g p (upT s Bn)).k : Int)]) ∧ NDid y w' C.fb g C.Fx (x.sayR g p (upT s Bn)).x) := fun y hy => netSay A base C.fb g x C.Fx p (upT s Bn) hg HX.out y (HWx.out.low hy) HFb.out (HCx.out.net.low hy)
    have hfacts : ((x.sayR g p (upT s Bn)).k = 0 ∧ (x.sayR g p (upT s Bn)).q = vw (x.nd p).vs p p + 1 ∧ (cnts g.n ((x.sayR g p (upT s Bn)).x.nd p).hs).getD p 0 = vw (x.nd p).vs p p + 1) ∨ (((x.sayR g p (upT s Bn)).k = 3 ∨ (x.sayR g p (upT s Bn)).k = 4) ∧ (x.sayR g p (upT s Bn)).q = 0 ∧ (cnts g.n ((x.sayR g p (upT s Bn)).x.nd p).hs).getD p 0 = vw (x.nd p).vs p p) := by
      rcases HSF.out with ⟨h1, h2, h3, _⟩ | ⟨h1, h2, h3⟩
      · exact Or.inl ⟨h1, h2, h3⟩
      · refine Or.inr ⟨?_, h2, h3⟩
        rcases h1 with ⟨_, h4⟩ | ⟨h4, _⟩ | ⟨h4, _⟩
        · omega
        · exact Or.inl h4
        · exact Or.inr h4
    have HFa : Hid _ := hfacts
    rw [hBn] at c2
    clear hfacts
    generalize x.sayR g p (upT s Bn) = R at *
    generalize upT s Bn = us at *
    have hpi : (p : Int) < (g.n : Int) := by omega
    go_wp2_with fail
    go_quiet (first | (go_at_call 21; exact Calls.quiet_of_same (HPk.out _)))
    have HHd : Hid (∀ y, Below w2.heap.size w2 y → Calls Tryz.prog 26 #[.pointer (some ⟨rb, 0, none⟩), .int .i64 (p : Int)] y fun e w' => (∃ c, e = .returned (.tuple #[.slice (some ⟨c, 0, none⟩) g.n g.n, .bool true]) ∧ y.heap.size ≤ c ∧ RowI w' c (cnts g.n (x.nd p).hs)) ∧ Below y.heap.size y w') := fun y hy => heard_any A base z rb g x sd sn p hg HX.out hp y (HWx.out.low hy) (HCX.out.low hy)
    go_wp2_with fail
    refine (show Calls _ _ _ _ _ from HHd.out _ (by first | exact (Below.refl _ _).drew | exact Below.refl _ _ | exact below_drewN (Below.refl _ _) _)).mono ?_
    rintro e w3 ⟨⟨k1, rfl, hk1, hr1⟩, hb3⟩
    have HB3 : Hid (Below w2.heap.size w2 w3) := bthen (by first | exact (Below.refl _ _).drew | exact Below.refl _ _ | exact below_drewN (Below.refl _ _) _) hb3
    have HR1 : Hid (RowI w3 k1 (cnts g.n (x.nd p).hs)) := hr1
    have HK1 : Hid (w2.heap.size ≤ k1 ∧ k1 < w3.heap.size) := ⟨by simpa using hk1, RowI.lt hr1⟩
    have HC3 : Hid (Circ w3 rb g x sd sn C) := HCx.out.low HB3.out
    have d4 := HC3.out.c4
    have d2 := HC3.out.c2
    rw [hBn] at d2
    have t4 := (HB3.out.cell (p := ⟨w.heap.size, 4, none⟩) (lt_of_cell b4)).trans b4
    have HN1 : Hid (¬ C.Fx k1) := fun h => by
      have h1 := HCi.out.lt (Or.inr (Or.inl h))
      have h2 := HK1.out.1
      have h3 := HQ.out.1
      omega
    clear hr1 hb3 hk1
    go_wp2_with fail
    go_region_held3 (fun y => y.cell? ⟨rb, 4, none⟩ = some (.pointer (some ⟨C.fb, 0, none⟩)) ∧ y.cell? ⟨rb, 2, none⟩ = some (.int .i64 (Bn : Int)) ∧ y.cell? ⟨w.heap.size, 4, none⟩ = some (.string s)) (first | (exact ⟨d4, d2, t4⟩) | (exact HK3.out) | go_keep)
      (first | (go_at_call 49; refine (show Calls _ _ _ _ _ from HUp.out _).mono ?_; rintro e w4 ⟨rfl, rfl⟩) | (go_at_call 40; refine (show Calls _ _ _ _ _ from HSy.out _ (HB3.out.drew)).mono ?_; rintro e w5 ⟨rfl, hd3⟩; have HD3 : Hid (NDid w3.drew w5 C.fb g C.Fx R.x) := hd3; have HK3 : Hid (w5.cell? ⟨rb, 4, none⟩ = some (.pointer (some ⟨C.fb, 0, none⟩)) ∧ w5.cell? ⟨rb, 2, none⟩ = some (.int .i64 (Bn : Int)) ∧ w5.cell? ⟨w.heap.size, 4, none⟩ = some (.string s)) := ⟨hd3.rest.cell d4 HNf.out.1, hd3.rest.cell d2 HNf.out.1, hd3.rest.cell t4 HNf.out.2⟩; clear hd3))
    obtain ⟨hc5, hb5⟩ := CircZ.did (HC3.out.low (Below.refl _ _).drew) HCz.out HD3.out
    have HC5 : Hid (CircZ z w5 rb g R.x sd sn) := hc5
    have HB5 : Hid (Below z w w5) := HBt.out _ ((HB3.out.mono (Nat.le_trans HZw.out HB0.out.size)).trans ((Below.refl _ _).drew.trans hb5))
    have HW5 : Hid (Sl w5 A base) := HD3.out.sl (HWx.out.low HB3.out.drew) HFb.out
    have HR5 : Hid (RowI w5 k1 (cnts g.n (x.nd p).hs)) := (HD3.out.rest.block k1 HK1.out.2 HN1.out).trans HR1.out
    have HX2 : Hid (R.x.Ok g) := HWs.out.ok (by omega)
    clear hc5 hb5 d4 d2 t4
    go_wp2_with fail
    refine (heard_any A base z rb g R.x sd sn p hg HX2.out hp w5 HW5.out HC5.out).mono ?_
    rintro e w6 ⟨⟨k2, rfl, hk2, hr2⟩, hb6⟩
    have HB6 : Hid (Below z w w6) := HB5.out.trans (hb6.mono HC5.out.le)
    have HE : Hid (WRan z w6 rb g sd sn (m + 1)) := ⟨R.x, HC5.out.low hb6, HWs.out⟩
    have f1 := RowI.cell (RowI.below HR5.out hb6 (RowI.lt HR5.out)) (j := p) (by rw [cnts_length]; exact hp)
    have f2 := RowI.cell hr2 (j := p) (by rw [cnts_length]; exact hp)
    rw [HCp.out] at f1
    clear hr2 hb6 hk2
    generalize vw (x.nd p).vs p p = yv at *
    have hwr : IntKind.i64.wrap (yv + 1) = yv + 1 := by rw [IntKind.wrap_i64]; omega
    rcases HFa.out with ⟨h1, h2, h3⟩ | ⟨h1, h2, h3⟩
    · rw [h3] at f2
      rw [h1, h2]
      clear h1 h2 h3
      go_wp2_with fail
      go_quiet (fail)
      go_wp2_with fail
      go_ret
      exact ⟨rfl, by first | exact HE.out | exact HE.out.low (by first | exact (Below.refl _ _).drew | exact below_drewN (Below.refl _ _) _), by first | exact HB6.out | exact HB6.out.drew | exact below_drewN HB6.out _⟩
    · rw [h3] at f2
      rw [h2]
      rcases h1 with h1 | h1
      all_goals
        rw [h1]
        clear h1
        go_wp2_with fail
        go_quiet (fail)
        go_wp2_with fail
        go_ret
        exact ⟨rfl, by first | exact HE.out | exact HE.out.low (by first | exact (Below.refl _ _).drew | exact below_drewN (Below.refl _ _) _), by first | exact HB6.out | exact HB6.out.drew | exact below_drewN HB6.out _⟩
  · by_cases h1 : j = 1
    · subst h1
      have HRn : Hid _ := HWl.out.tick hg hp
      have HTk : Hid (∀ y, Below w2.heap.size w2 y → Calls Tryz.prog 43 #[.pointer (some ⟨C.fb, 0, none⟩), .int .i64 (p : Int)] y fun e w' => e = .returned (.int .i64 0) ∧ NDid y w' C.fb g C.Fx (x.tick g p)) := fun y hy => by
        have h1 := netTick A base C.fb g x C.Fx p hg HX.out y (HWx.out.low hy) HFb.out (HCx.out.net.low hy)
        rw [tickR_at hp] at h1
        exact h1
      go_wp2_with fail
      go_region_held3 (fun y => y.cell? ⟨rb, 4, none⟩ = some (.pointer (some ⟨C.fb, 0, none⟩)) ∧ y.cell? ⟨w.heap.size, 1, none⟩ = some (.int .i64 a) ∧ y.cell? ⟨rb, 0, none⟩ = some (.int .i64 (g.n : Int))) (first | (exact ⟨c4', b1, c0'⟩) | (exact HK3.out) | go_keep)
        (first | (go_at_call 21; refine (show Calls _ _ _ _ _ from HPk.out _).mono ?_; rintro e w3 ⟨rfl, rfl⟩) | (go_at_call 43; refine (show Calls _ _ _ _ _ from HTk.out _ (by first | exact (Below.refl _ _).drew | exact Below.refl _ _ | exact below_drewN (Below.refl _ _) _)).mono ?_; rintro e w4 ⟨rfl, hd3⟩; have HD3 : Hid (NDid w2.drew w4 C.fb g C.Fx (x.tick g p)) := hd3; have HK3 : Hid (w4.cell? ⟨rb, 4, none⟩ = some (.pointer (some ⟨C.fb, 0, none⟩)) ∧ w4.cell? ⟨w.heap.size, 1, none⟩ = some (.int .i64 a) ∧ w4.cell? ⟨rb, 0, none⟩ = some (.int .i64 (g.n : Int))) := ⟨hd3.rest.cell c4' HNf.out.1, hd3.rest.cell b1 HNf.out.2, hd3.rest.cell c0' HNf.out.1⟩; clear hd3))
      obtain ⟨hc4, hb4⟩ := CircZ.did (HCx.out.low (Below.refl _ _).drew) HCz.out HD3.out
      have HC4 : Hid _ := hc4
      have HB4 : Hid _ := HBt.out _ ((Below.refl _ _).drew.trans hb4)
      clear hc4 hb4
      go_wp2_with fail
      go_ret
      exact ⟨rfl, ⟨_, HC4.out, HRn.out⟩, HB4.out⟩
    · have g0 : (j == 0) = false := by simp [h0]
      have g1 : (j == 1) = false := by simp [h1]
      by_cases hd : j = 2 ∨ j = 3
      · by_cases hn0 : x.bag.length = 0
        · rw [hn0]
          rcases hd with rfl | rfl
          all_goals
            go_wp2_with fail
            go_ret
            exact ⟨rfl, HWX.out, HBz.out⟩
        · have hn1 : ¬ ((x.bag.length : Int) < 1) := by omega
          have hkb := pk_bd a (x.bag.length : Int) (by omega)
          have HPl : Hid _ := fun y => pick_any a (x.bag.length : Int) y HA.out (by omega) (by omega)
          generalize pk a (x.bag.length : Int) = kk at *
          obtain ⟨k, rfl⟩ : ∃ k : Nat, kk = k := ⟨kk.toNat, by omega⟩
          obtain ⟨t, hxk⟩ : ∃ t, x.bag[k]? = some t := ⟨x.bag[k], List.getElem?_eq_getElem (by omega)⟩
          have HXk : Hid _ := hxk
          clear hxk
          rcases hd with rfl | rfl
          · have hpk := HWl.out.bag t (List.mem_of_getElem? HXk.out)
            obtain ⟨tt, tx⟩ := t
            obtain ⟨⟨tn, hto, hton⟩, _, hra⟩ := hpk
            simp only at hto hra
            subst hto
            obtain ⟨hh, hWd⟩ := HWl.out.deliver hg k tx hton
            have HWd : Hid _ := hWd
            have hrange : ((x.nd tn).hear g tn tx).k = 0 ∨ (6 ≤ ((x.nd tn).hear g tn tx).k ∧ ((x.nd tn).hear g tn tx).k ≤ 8) := by
              have h1 := hh.range
              have h2 : ((x.nd tn).hear g tn tx).k ≠ 5 := fun h => (hh.five.1 h) hra
              omega
            have HDl : Hid (∀ y, Below w2.heap.size w2 y → Calls Tryz.prog 41 #[.pointer (some ⟨C.fb, 0, none⟩), .int .i64 (k : Int)] y fun e w' => e = .returned (.int .i64 ((((x.nd tn).hear g tn tx).k : Nat) : Int)) ∧ NDid y w' C.fb g C.Fx (x.deliver g k ⟨(tn : Int), tx⟩)) := fun y hy => by
              have h1 := netDeliver A base C.fb g x C.Fx (k : Int) hg HX.out y (HWx.out.low hy) HFb.out (HCx.out.net.low hy)
              rw [deliverR_at HXk.out] at h1
              exact h1
            clear hh hWd hra
            generalize x.deliver g k ⟨(tn : Int), tx⟩ = x2 at *
            generalize ((x.nd tn).hear g tn tx).k = kr at *
            go_wp2_with fail
            go_region_held3 (fun y => y.cell? ⟨rb, 4, none⟩ = some (.pointer (some ⟨C.fb, 0, none⟩)) ∧ y.cell? ⟨w.heap.size, 1, none⟩ = some (.int .i64 a)) (first | (exact ⟨c4', b1⟩) | (exact HK3.out) | go_keep)
              (first | (go_at_call 21; refine (show Calls _ _ _ _ _ from HPl.out _).mono ?_; rintro e w3 ⟨rfl, rfl⟩) | (go_at_call 41; refine (show Calls _ _ _ _ _ from HDl.out _ (by first | exact (Below.refl _ _).drew | exact Below.refl _ _ | exact below_drewN (Below.refl _ _) _)).mono ?_; rintro e w4 ⟨rfl, hd3⟩; have HD3 : Hid (NDid w2.drew w4 C.fb g C.Fx x2) := hd3; have HK3 : Hid (w4.cell? ⟨rb, 4, none⟩ = some (.pointer (some ⟨C.fb, 0, none⟩)) ∧ w4.cell? ⟨w.heap.size, 1, none⟩ = some (.int .i64 a)) := ⟨hd3.rest.cell c4' HNf.out.1, hd3.rest.cell b1 HNf.out.2⟩; clear hd3))
            obtain ⟨hc4, hb4⟩ := CircZ.did (HCx.out.low (Below.refl _ _).drew) HCz.out HD3.out
            have HC4 : Hid _ := hc4
            have HB4 : Hid _ := HBt.out _ ((Below.refl _ _).drew.trans hb4)
            clear hc4 hb4
            rcases hrange with hr | ⟨hr1, hr2⟩
            · subst hr
              go_wp2_with fail
              go_ret
              exact ⟨rfl, ⟨_, HC4.out, HWd.out⟩, HB4.out⟩
            · have i1 : ((kr : Int) == 0) = false := by simp; omega
              have i2 : (6 : Int) ≤ (kr : Int) := by omega
              have i3 : (kr : Int) ≤ 8 := by omega
              go_wp2_with fail
              go_ret
              exact ⟨rfl, ⟨_, HC4.out, HWd.out⟩, HB4.out⟩
          · have HWd : Hid _ := HWl.out.drop k
            have HDl : Hid (∀ y, Below w2.heap.size w2 y → Calls Tryz.prog 50 #[.pointer (some ⟨C.fb, 0, none⟩), .int .i64 (k : Int)] y fun e w' => e = .returned (.int .i64 0) ∧ NDid y w' C.fb g C.Fx { x with bag := x.bag.eraseIdx k }) := fun y hy => by
              have h1 := netDrop A base C.fb g x C.Fx (k : Int) hg HX.out y (HWx.out.low hy) HFb.out (HCx.out.net.low hy)
              rw [dropR_at HXk.out] at h1
              exact h1
            go_wp2_with fail
            go_region_held3 (fun y => y.cell? ⟨rb, 4, none⟩ = some (.pointer (some ⟨C.fb, 0, none⟩)) ∧ y.cell? ⟨w.heap.size, 1, none⟩ = some (.int .i64 a)) (first | (exact ⟨c4', b1⟩) | (exact HK3.out) | go_keep)
              (first | (go_at_call 21; refine (show Calls _ _ _ _ _ from HPl.out _).mono ?_; rintro e w3 ⟨rfl, rfl⟩) | (go_at_call 50; refine (show Calls _ _ _ _ _ from HDl.out _ (by first | exact (Below.refl _ _).drew | exact Below.refl _ _ | exact below_drewN (Below.refl _ _) _)).mono ?_; rintro e w4 ⟨rfl, hd3⟩; have HD3 : Hid (NDid w2.drew w4 C.fb g C.Fx { x with bag := x.bag.eraseIdx k }) := hd3; have HK3 : Hid (w4.cell? ⟨rb, 4, none⟩ = some (.pointer (some ⟨C.fb, 0, none⟩)) ∧ w4.cell? ⟨w.heap.size, 1, none⟩ = some (.int .i64 a)) := ⟨hd3.rest.cell c4' HNf.out.1, hd3.rest.cell b1 HNf.out.2⟩; clear hd3))
            obtain ⟨hc4, hb4⟩ := CircZ.did (HCx.out.low (Below.refl _ _).drew) HCz.out HD3.out
            have HC4 : Hid _ := hc4
            have HB4 : Hid _ := HBt.out _ ((Below.refl _ _).drew.trans hb4)
            clear hc4 hb4
            go_wp2_with fail
            go_ret
            exact ⟨rfl, ⟨_, HC4.out, HWd.out⟩, HB4.out⟩
      · have g2 : (j == 2) = false := by simp; omega
        have g3 : (j == 3) = false := by simp; omega
        go_wp2_with fail
        refine (show Calls _ _ _ _ _ from HFg.out _ HB0.out).mono ?_
        rintro e w3 ⟨rfl, hr3, hb3⟩
        have HR3 : Hid _ := hr3
        have HB3 : Hid _ := HBt.out _ hb3
        clear hr3 hb3
        go_wp2_with fail
        go_ret
        exact ⟨rfl, HR3.out, HB3.out⟩
end Go.Proofs.YtabecbjfamphbaaGreatDoor
