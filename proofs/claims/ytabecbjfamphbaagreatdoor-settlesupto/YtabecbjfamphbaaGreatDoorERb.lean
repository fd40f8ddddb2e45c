/-
  Texts that the proofs of this seat share, joined: Rb.
-/
import Derived.Test.YtabecbjfamphbaaGreatDoorERa
import Derived.Test.YtabecbjfamphbaaGreatDoorB38
/- hearsaykeep: round. -/
namespace Go.Proofs.YtabecbjfamphbaaGreatDoor
open Go.RowKit Go.Stop Go.Extern

/-- A circle behind the ticks of the first k nodes. -/
structure Tkd (z : Nat) (w : World) (rb : Nat) (g : Gr) (x : MNet) (sd : List Sd) (sn : List Sn) (bag : List (Nat × Msg)) (said : List Fm) (m k : Nat) (y : MNet) (bk : List (Nat × Msg)) : Prop where
  circ : CircZ z w rb g y sd sn
  run : Run g y sd sn bk said (m + k)
  nd : y.nd = x.nd
  all : ∀ p, p < k → ∀ t ∈ tickM g p (x.nd p), t ∈ bk
  few : bk.length ≤ bag.length + 520 * k
theorem Tkd.tick {z : Nat} {w w' : World} {rb : Nat} {g : Gr} {x : MNet} {sd : List Sd} {sn : List Sn} {bag : List (Nat × Msg)} {said : List Fm} {m k : Nat} {y : MNet} {bk : List (Nat × Msg)} (h : Tkd z w rb g x sd sn bag said m k y bk) (hg : g.Ok) (hk : k < g.n) (hc : CircZ z w' rb g (y.tick g k) sd sn) :
    Tkd z w' rb g x sd sn bag said m (k + 1) (y.tick g k) (bk ++ tickM g k (y.nd k)) := by
  refine ⟨hc, h.run.tick hg hk, h.nd, fun p hp t ht => ?_, ?_⟩
  · by_cases e : p = k
    · subst e
      rw [h.nd]
      exact List.mem_append_right _ ht
    · exact List.mem_append_left _ (h.all p (by omega) t ht)
  · have h1 := h.few
    have h2 := tick_few hg (h.run.net.inv.ok k hk)
    rw [tick_enc, List.length_map] at h2
    rw [List.length_append]
    omega
theorem mul_le8 {a n : Nat} (h : n ≤ 8) : a * n ≤ a * 8 := Nat.mul_le_mul_left a h
set_option maxRecDepth 100000 in
set_option maxHeartbeats 2000000 in
theorem round_any (A : Nat → Addr) (base z rb : Nat) (g : Gr) (x : MNet) (sd : List Sd) (sn : List Sn) (bag : List (Nat × Msg)) (said : List Fm) (m : Nat) (ad : Option Addr) (len cap : Nat) (vs : List Int) (hg : g.Ok) (hm : m + 8 + (bag.length + 4160 + said.length * 64) ≤ 180000000) (hvs : ∀ v ∈ vs, I64 v) (w : World) (hw : Sl w A base) (hz : base ≤ z) (hord : ∀ y, Below z w y → Ints y ad len vs) (hC : CircZ z w rb g x sd sn) (hR : Run g x sd sn bag said m) :
    Calls Tryz.prog 17 #[.pointer (some ⟨rb, 0, none⟩), .slice ad len cap] w fun e w' => e = .returned (.bool true) ∧ (∃ x' m', CircZ z w' rb g x' sd sn ∧ Rnd g x.nd x' sd sn [] said m' ∧ m' ≤ m + 8 + (bag.length + 4160 + said.length * 64)) ∧ Below z w w' := by
  have HW : Hid _ := hw
  have HOr : Hid (∀ y, Below z w y → Ints y ad len vs) := hord
  have HV : Hid (∀ v ∈ vs, I64 v) := hvs
  have HT0 : Hid (Tkd z w rb g x sd sn bag said m 0 x bag) := ⟨hC, hR, rfl, fun p hp => by omega, by omega⟩
  have hn8 := hg.n.2
  have HLen : Hid (sd.length = said.length) := hR.len
  clear hw hord hvs hC hR
  go_enter Tryz.func17, Tryz.ntmps17
  go_wp2_with fail
  go_loopw [5] (fun c wr => ∃ k : Nat, k ≤ g.n ∧ c = .int .i64 k ∧ (∃ y bk, Tkd z wr rb g x sd sn bag said m k y bk) ∧ Below z w wr) (fun c _ => g.n - (intOf c).toNat)
  case atStart => exact ⟨0, Nat.zero_le _, rfl, ⟨_, _, HT0.out⟩, Below.refl _ _⟩
  case round =>
    obtain ⟨k, hkn, rfl, ⟨y, bk, hT⟩, hb⟩ := hrel
    have HT : Hid _ := hT
    have HB : Hid (Below z w wr) := hb
    have HWr : Hid (Sl wr A base) := HW.out.above hz hb
    obtain ⟨C, hCi, hCz⟩ := hT.circ.how
    have HCi : Hid (Circ wr rb g y sd sn C) := hCi
    have HCz : Hid _ := hCz
    have c0 := hCi.c0
    have c4 := hCi.c4
    have HFb : Hid (∀ k, C.Fx k → base ≤ k) := fun k hk => Nat.le_trans hz (hCz k (Or.inr (Or.inl hk)))
    clear hT hb hCi hCz
    by_cases hlt : k < g.n
    · have hki : (k : Int) < (g.n : Int) := by omega
      have HX : Hid _ := HT.out.run.ok2 hg (by omega)
      have HTk : Hid _ := netTick A base C.fb g y C.Fx k hg HX.out wr HWr.out HFb.out HCi.out.net
      rw [tickR_at hlt] at HTk
      go_wp2_with fail
      refine (show Calls _ _ _ _ _ from HTk.out).mono ?_
      rintro e w1 ⟨rfl, hd⟩
      obtain ⟨hc1, hb1⟩ := CircZ.did HCi.out HCz.out hd
      have HT1 : Hid _ := HT.out.tick hg hlt hc1
      have HB1 : Hid _ := HB.out.trans hb1
      clear hc1 hb1 hd
      go_wp2_with fail
      go_roundw
      case rel => exact ⟨k + 1, by omega, by go_num, ⟨_, _, HT1.out⟩, HB1.out⟩
      case measure => simp [intOf]; omega
    · have hkn' : k = g.n := by omega
      subst hkn'
      go_wp2_with fail
      refine (netLeft C.fb g y C.Fx wr HCi.out.net).mono ?_
      rintro e w1 ⟨rfl, hw1⟩
      subst hw1
      have hyb : y.bag.length = bk.length := by rw [HT.out.run.enc, List.length_map]
      have hfew := HT.out.few
      have hsd := HLen.out
      have c5 := HCi.out.c5
      obtain ⟨M1, hM1⟩ : ∃ M1 : Nat, M1 = sd.length * g.n := ⟨_, rfl⟩
      obtain ⟨M2, hM2⟩ : ∃ M2 : Nat, M2 = M1 * g.n := ⟨_, rfl⟩
      have hM1b : M1 ≤ sd.length * 8 := by rw [hM1]; exact mul_le8 hn8
      have hM2b : M2 ≤ M1 * 8 := by rw [hM2]; exact mul_le8 hn8
      have hw1 : IntKind.i64.wrap ((sd.length : Int) * (g.n : Int)) = (M1 : Int) := by
        rw [show (sd.length : Int) * (g.n : Int) = (M1 : Int) by rw [hM1]; simp, IntKind.wrap_i64]; omega
      have hw2 : IntKind.i64.wrap ((M1 : Int) * (g.n : Int)) = (M2 : Int) := by
        rw [show (M1 : Int) * (g.n : Int) = (M2 : Int) by rw [hM2]; simp, IntKind.wrap_i64]; omega
      obtain ⟨P0, hP0⟩ : ∃ P0 : Nat, P0 = y.bag.length + M2 := ⟨_, rfl⟩
      have hw3 : IntKind.i64.wrap ((y.bag.length : Int) + (M2 : Int)) = (P0 : Int) := by
        rw [IntKind.wrap_i64]; omega
      have HR0 : Hid (Rnd g x.nd y sd sn bk said (m + g.n)) := by
        have h1 := Rnd.begin HT.out.run (fun p hp t ht => HT.out.all p hp t (by rw [← HT.out.nd]; exact ht))
        rw [HT.out.nd] at h1
        exact h1
      have HP0 : Hid (potR g y bk said ≤ P0) := by
        have h1 := Nat.mul_le_mul_left g.n (lacks_le g y.nd said)
        have h2 : g.n * (g.n * said.length) = M2 := by rw [hM2, hM1, hsd, Nat.mul_comm said.length g.n, Nat.mul_comm (g.n * said.length) g.n]
        show bk.length + g.n * lacks g y.nd said ≤ _
        omega
      have HCy : Hid (CircZ z w1 rb g y sd sn) := ⟨C, HCi.out, HCz.out⟩
      have hP0b : P0 ≤ bag.length + 4160 + said.length * 64 := by omega
      clear hyb hsd hM1 hM2 hP0
      go_wp2_with fail
      go_quiet (fail)
      go_wp2_with fail
      have HZw : Hid (z ≤ w1.heap.size) := HCy.out.le
      clear hw1 hw2 hw3 hM1b hM2b c0 c4 c5 hfew hlt
      go_loopw [7, 9] (fun a b wr => ∃ (i : Nat) (xk : MNet) (bk' : List (Nat × Msg)), a = .int .i64 (xk.bag.length : Int) ∧ b = .int .i64 (i : Int) ∧ CircZ z wr rb g xk sd sn ∧ Rnd g x.nd xk sd sn bk' said (m + g.n + i) ∧ i + potR g xk bk' said ≤ P0 ∧ Below z w wr) (fun _ b _ => P0 - (intOf b).toNat)
      case atStart =>
        refine ⟨0, y, bk, rfl, rfl, HCy.out.low (by first | exact Below.refl _ _ | exact (Below.refl _ _).drew | exact below_drewN (Below.refl _ _) _), HR0.out, by have := HP0.out; omega, HB.out.trans (Below.mono (B := w1.heap.size) (by first | exact Below.refl _ _ | exact (Below.refl _ _).drew | exact below_drewN (Below.refl _ _) _) HZw.out)⟩
      case round =>
        obtain ⟨i, xk, bk', rfl, rfl, hCk, hRk, hpk, hbk⟩ := hrel
        have hbl : xk.bag.length = bk'.length := by rw [hRk.run.enc, List.length_map]
        have hpb : bk'.length ≤ potR g xk bk' said := Nat.le_add_right _ _
        by_cases hn0 : xk.bag.length = 0
        · obtain rfl : bk' = [] := List.eq_nil_of_length_eq_zero (by omega)
          have HCk : Hid _ := hCk
          have HRk : Hid _ := hRk
          have HBk : Hid _ := hbk
          clear hCk hRk hbk
          rw [hn0]
          go_wp2_with fail
          go_ret
          exact ⟨rfl, ⟨xk, _, HCk.out, HRk.out, by omega⟩, HBk.out⟩
        · have HRk : Hid _ := hRk
          have HBk : Hid (Below z w wr) := hbk
          have HWk : Hid (Sl wr A base) := HW.out.above hz hbk
          obtain ⟨C2, hC2, hC2z⟩ := hCk.how
          have HC2 : Hid (Circ wr rb g xk sd sn C2) := hC2
          have HC2z : Hid _ := hC2z
          have d4 := hC2.c4
          have HFb2 : Hid (∀ k, C2.Fx k → base ≤ k) := fun k hk => Nat.le_trans hz (hC2z k (Or.inr (Or.inl hk)))
          have HNf : Hid (¬ C2.Fx rb) := fun h => (hC2.sep rb h).1 rfl
          have hpos : (0 : Int) < (xk.bag.length : Int) := by omega
          have hnn : ¬ (xk.bag.length : Int) < 0 := by omega
          have him : ¬ (P0 : Int) < (i : Int) := by omega
          have hbb : bk'.length ≤ 200000000 := by omega
          have HAt : Hid (∀ v, Below wr.heap.size wr v → Calls Tryz.prog 45 #[.slice ad len cap, .int .i64 (i : Int)] v fun e w' => e = .returned (.int .i64 (vs.getD i 0)) ∧ w' = v) := fun v hv => at_any ad len cap vs i v (HOr.out v (HBk.out.trans (hv.mono hCk.le)))
          have hI : I64 (vs.getD i 0) := by
            rw [List.getD_eq_getElem?_getD]
            cases hq : vs[i]? with
            | none => exact ⟨by decide, by decide⟩
            | some v => exact HV.out v (List.mem_of_getElem? hq)
          have HPk : Hid _ := fun v => pick_any (vs.getD i 0) (xk.bag.length : Int) v hI (by omega) (by omega)
          have hkb := pk_bd (vs.getD i 0) (xk.bag.length : Int) (by omega)
          generalize pk (vs.getD i 0) (xk.bag.length : Int) = kk at *
          obtain ⟨k, rfl⟩ : ∃ k : Nat, kk = k := ⟨kk.toNat, by omega⟩
          obtain ⟨⟨to, yy⟩, hy⟩ : ∃ t, bk'[k]? = some t := ⟨bk'[k], List.getElem?_eq_getElem (by omega)⟩
          have hxk : xk.bag[k]? = some (encP g (to, yy)) := by rw [hRk.run.enc, List.getElem?_map, hy]; rfl
          obtain ⟨hk7, bag'', hRn, hpot⟩ := hRk.deliver hg hy
          have HRn : Hid _ := hRn
          have hX := hRk.run.ok2 hg (by omega)
          have HDl : Hid (∀ v, Below wr.heap.size wr v → Calls Tryz.prog 41 #[.pointer (some ⟨C2.fb, 0, none⟩), .int .i64 (k : Int)] v fun e w' => e = .returned (.int .i64 ((((xk.nd to).hear g to (yy.text g)).k : Nat) : Int)) ∧ NDid v w' C2.fb g C2.Fx (xk.deliver g k (encP g (to, yy)))) := fun v hv => by
            have h1 := netDeliver A base C2.fb g xk C2.Fx (k : Int) hg hX v (HWk.out.low hv) HFb2.out (HC2.out.net.low hv)
            rw [deliverR_at hxk] at h1
            exact h1
          have hpot2 : i + 1 + potR g (xk.deliver g k (encP g (to, yy))) bag'' said ≤ P0 := by omega
          have hiP : i < P0 := by omega
          clear hCk hRk hbk hC2 hC2z hRn hX hy hxk hI hbl hpb hpot hpk hn0 hbb hkb
          generalize vs.getD i 0 = vi at *
          rcases hk7 with e7 | e7
          all_goals
            rw [e7] at HDl
            clear e7
            go_wp2_with fail
            go_region_held3 (fun v => v.cell? ⟨rb, 4, none⟩ = some (.pointer (some ⟨C2.fb, 0, none⟩))) (first | (exact d4) | (exact HK3.out) | go_keep)
              (first | (go_at_call 45; refine (show Calls _ _ _ _ _ from HAt.out _ (by first | exact (Below.refl _ _).drew | exact Below.refl _ _ | exact below_drewN (Below.refl _ _) _)).mono ?_; rintro e w2 ⟨rfl, rfl⟩) | (go_at_call 21; refine (show Calls _ _ _ _ _ from HPk.out _).mono ?_; rintro e w2 ⟨rfl, rfl⟩) | (go_at_call 41; refine (show Calls _ _ _ _ _ from HDl.out _ (by first | exact (Below.refl _ _).drew | exact Below.refl _ _ | exact below_drewN (Below.refl _ _) _)).mono ?_; rintro e w3 ⟨rfl, hd3⟩; have HD3 : Hid (NDid wr.drew w3 C2.fb g C2.Fx (xk.deliver g k (encP g (to, yy)))) := hd3; have HK3 : Hid (w3.cell? ⟨rb, 4, none⟩ = some (.pointer (some ⟨C2.fb, 0, none⟩))) := hd3.rest.cell d4 HNf.out; clear hd3))
            obtain ⟨hc4, hb4⟩ := CircZ.did (HC2.out.low (Below.refl _ _).drew) HC2z.out HD3.out
            have HC4 : Hid _ := hc4
            have HB4 : Hid (Below z w w3) := HBk.out.trans ((Below.refl _ _).drew.trans hb4)
            obtain ⟨C4, hC4, _⟩ := hc4.how
            have HC4i : Hid (Circ w3 rb g (xk.deliver g k (encP g (to, yy))) sd sn C4) := hC4
            have hfb : C4.fb = C2.fb := by
              have h1 := hC4.c4
              rw [HK3.out] at h1
              simpa using h1.symm
            have HLf : Hid _ := netLeft C4.fb g _ C4.Fx w3 HC4i.out.net
            rw [hfb] at HLf
            clear hc4 hb4 hC4 d4 hfb
            go_wp2_with fail
            refine (show Calls _ _ _ _ _ from HLf.out).mono ?_
            rintro e w5 ⟨rfl, hw5⟩
            subst hw5
            go_wp2_with fail
            go_roundw
            case rel => exact ⟨i + 1, _, bag'', rfl, by go_num, HC4.out, HRn.out, hpot2, HB4.out⟩
            case measure => simp [intOf]; omega
end Go.Proofs.YtabecbjfamphbaaGreatDoor
