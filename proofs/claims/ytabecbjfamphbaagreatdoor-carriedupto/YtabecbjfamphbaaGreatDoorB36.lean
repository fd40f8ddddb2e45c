/-
  Texts that the proofs of this seat share, joined: Ke.
-/
import Derived.Test.YtabecbjfamphbaaGreatDoorB32
import Derived.Test.YtabecbjfamphbaaGreatDoorB34
import Derived.BigRegion
/- hearsaykeep: says. -/
namespace Go.Proofs.YtabecbjfamphbaaGreatDoor
open Go.RowKit Go.Stop Go.Extern

theorem Clk.cnts {g : Gr} {p : Nat} {s : NS} (h : s.Ok g p) {o : Nat} (ho : o < g.n) : (cnts g.n s.hs).getD o 0 = vw s.vs p o := by
  rw [cnts_get ho, h.clk.cnt o ho]
theorem Tryz.saidInfo : (Tryz.prog.info? 93).map (fun i => (i.zero, i.size, i.bytes)) = some (some (.agg #[.int .i64 0, .int .i64 0, .string ⟨#[]⟩, .slice none 0 0]), 4, 56) := by kernel_rfl
/-- What Circle.says makes of what was said. -/
def saidSd (g : Gr) (x : MNet) (p : Nat) (body : ByteArray) (pb : Nat) : Sd := ⟨p, vw (x.nd p).vs p p + 1, body, pb, cnts g.n (x.nd p).hs⟩
theorem put_same (x : MNet) (p : Nat) (s : NS) : (x.put p s).nd p = s := if_pos rfl
theorem put_other (x : MNet) (p : Nat) (s : NS) {q : Nat} (h : q ≠ p) : (x.put p s).nd q = x.nd q := if_neg h
theorem sayR_eq {g : Gr} {x : MNet} {p : Nat} (hp : p < g.n) (s : ByteArray) : x.sayR g p s = ⟨((x.nd p).say g p s).q, ((x.nd p).say g p s).k, x.say g p s⟩ := by
  unfold MNet.sayR
  rw [if_pos (show isNode g.n p = true from decide_eq_true ⟨by omega, by omega⟩)]
  rfl
/-- What a saying gives. -/
theorem say_facts {g : Gr} {x : MNet} {p : Nat} (hp : p < g.n) (hok : (x.nd p).Ok g p) (s : ByteArray) :
    ((x.sayR g p s).k = 0 ∧ (x.sayR g p s).q = vw (x.nd p).vs p p + 1 ∧ (cnts g.n ((x.sayR g p s).x.nd p).hs).getD p 0 = vw (x.nd p).vs p p + 1 ∧ (s.size : Int) ≤ g.B ∧ vw (x.nd p).vs p p < g.L ∧ vw (x.nd p).vs p p - g.low (x.nd p).vs p < g.W) ∨
    (((x.sayR g p s).k = 2 ∧ g.B < (s.size : Int) ∨ (x.sayR g p s).k = 3 ∧ vw (x.nd p).vs p p = g.L ∨ (x.sayR g p s).k = 4 ∧ (x.nd p).sayK g p s.size = 4) ∧ (x.sayR g p s).q = 0 ∧ (cnts g.n ((x.sayR g p s).x.nd p).hs).getD p 0 = vw (x.nd p).vs p p) := by
  rw [sayR_eq hp]
  have hbd := hok.clk.bd p p hp hp
  by_cases hK : (x.nd p).sayK g p s.size = 0
  · left
    obtain ⟨h1, h2, h3⟩ := sayK_zero hK
    have he : (x.nd p).say g p s = ⟨0, vw (x.nd p).vs p p + 1, NS.sayL g p ((x.nd p).word g p s), (x.nd p).said g p ((x.nd p).word g p s)⟩ := if_pos hK
    refine ⟨by rw [he], by rw [he], ?_, h1, h2, h3⟩
    show (cnts g.n ((x.put p ((x.nd p).say g p s).s).nd p).hs).getD p 0 = _
    rw [put_same, he, cnts_get hp]
    show ((cntW ((x.nd p).hs ++ [((x.nd p).word g p s).word]) p : Nat) : Int) = _
    rw [cntW_append, hok.clk.cnt p hp, if_pos (show ((x.nd p).word g p s).word.org = (p : Int) from rfl)]
    omega
  · right
    have he : (x.nd p).say g p s = ⟨(x.nd p).sayK g p s.size, 0, [], x.nd p⟩ := if_neg hK
    refine ⟨?_, by rw [he], ?_⟩
    · rw [he]
      simp only
      unfold NS.sayK Proofs.YtabecbjfamphbaaGreatDoor.sayK at hK ⊢
      by_cases h1 : g.B < (s.size : Int)
      · rw [if_pos h1]; exact Or.inl ⟨rfl, h1⟩
      · rw [if_neg h1] at hK ⊢
        by_cases h2 : g.L ≤ vw (x.nd p).vs p p
        · rw [if_pos h2]; exact Or.inr (Or.inl ⟨rfl, by omega⟩)
        · rw [if_neg h2] at hK ⊢
          by_cases h3 : g.W ≤ vw (x.nd p).vs p p - g.low (x.nd p).vs p
          · rw [if_pos h3]; exact Or.inr (Or.inr ⟨rfl, rfl⟩)
          · rw [if_neg h3] at hK; exact absurd rfl hK
    · show (cnts g.n ((x.put p ((x.nd p).say g p s).s).nd p).hs).getD p 0 = _
      rw [put_same, he, cnts_get hp, hok.clk.cnt p hp]
set_option maxRecDepth 100000 in
set_option maxHeartbeats 2000000 in
theorem says_any (A : Nat → Addr) (base z rb : Nat) (g : Gr) (x : MNet) (sd : List Sd) (sn : List Sn) (p : Nat) (s : ByteArray) (settled : Bool) (hg : g.Ok) (hx : x.Ok g) (hx' : (x.sayR g p s).x.Ok g) (hp : p < g.n) (hln : sd.length ≤ 10000000)
    (hview : ∀ q, q < g.n → g.low (x.nd p).vs p ≤ (cntW (x.nd q).hs p : Int)) (hset : settled = true → (x.nd p).sayK g p s.size ≠ 4) (w : World) (hw : Sl w A base) (hz : base ≤ z) (h : CircZ z w rb g x sd sn) :
    Calls Tryz.prog 20 #[.pointer (some ⟨rb, 0, none⟩), .int .i64 p, .string s, .bool settled] w fun e w' => e = .returned (.bool true) ∧ Below z w w' ∧
      (((x.sayR g p s).k = 0 ∧ ∃ pb, CircZ z w' rb g (x.sayR g p s).x (sd ++ [saidSd g x p s pb]) sn) ∨ ((x.sayR g p s).k ≠ 0 ∧ CircZ z w' rb g (x.sayR g p s).x sd sn)) := by
  have HW : Hid _ := hw
  have HX : Hid _ := hx
  have HX' : Hid _ := hx'
  have HC : Hid _ := h
  have HSF : Hid _ := say_facts hp (hx.nd p hp) s
  obtain ⟨C, hCi, hCz⟩ := h.how
  have HCi : Hid _ := hCi
  have HCz : Hid _ := hCz
  have HVw : Hid _ := hview
  have HSet : Hid _ := hset
  have hPb := (hx.nd p hp).clk.bd p p hp hp
  have hLb := (hx.nd p hp).clk.low_bd hg p hp
  have hlo := (hx.nd p hp).clk.low_le p p hp
  have hL := hg.L
  have hn8 := hg.n.2
  have HPe : Hid (∀ q, q < g.n → (cnts g.n (x.nd q).hs).getD p 0 = (cntW (x.nd q).hs p : Int)) := fun q _ => cnts_get hp
  have HPp : Hid ((cnts g.n (x.nd p).hs).getD p 0 = vw (x.nd p).vs p p) := Clk.cnts (hx.nd p hp) hp
  have HNS : Hid (∀ y, Below w.heap.size w y → Calls Tryz.prog 40 #[.pointer (some ⟨C.fb, 0, none⟩), .int .i64 (p : Int), .string s] y fun e w' => e = .returned (.tuple #[.int .i64 (x.sayR g p s).q, .int .i64 ((x.sayR g p s).k : Int)]) ∧ NDid y w' C.fb g C.Fx (x.sayR g p s).x) := fun y hy => netSay A base C.fb g x C.Fx p s hg hx y (hw.low hy) (fun k hk => Nat.le_trans hz (hCz k (Or.inr (Or.inl hk)))) (hCi.net.low hy)
  have HSd : Hid (∀ pb, saidSd g x p s pb = ⟨p, vw (x.nd p).vs p p + 1, s, pb, cnts g.n (x.nd p).hs⟩) := fun _ => rfl
  clear h hw hx hx' hCi hCz hview hset
  generalize x.sayR g p s = R at *
  generalize vw (x.nd p).vs p p = P at *
  generalize g.low (x.nd p).vs p = lo at *
  go_enter Tryz.func20, Tryz.ntmps20
  go_wp2_with fail
  refine (heard_any A base z rb g x sd sn p hg HX.out hp w HW.out HC.out).mono ?_
  rintro e w1 ⟨⟨c, rfl, hc, hr⟩, hb1⟩
  have HR : Hid _ := hr
  have HB1 : Hid _ := hb1
  have HC1 : Hid _ := HC.out.low hb1
  have hcp := RowI.cell hr (j := p) (by rw [cnts_length]; exact hp)
  rw [HPp.out] at hcp
  have hpi : (p : Int) < (g.n : Int) := by omega
  have HD0 : Hid (∀ y, Below w1.heap.size w1 y → y.cell? ⟨rb, 0, none⟩ = some (.int .i64 (g.n : Int))) := fun y hy => (HCi.out.low (bthen hb1 hy)).c0
  clear hr hb1
  have d0 := HD0.out w1 (Below.refl _ _)
  go_wp2_with fail
  clear d0
  go_loopw [10, 11, 12] (fun a b c wr => ∃ (k : Nat) (y : Int), k ≤ g.n ∧ c = .int .i64 k ∧ a = .bool true ∧ b = .int .i64 y ∧ lo ≤ y ∧ y ≤ P ∧ Below w1.heap.size w1 wr) (fun _ _ c _ => g.n - (intOf c).toNat)
  case atStart => exact ⟨0, P, Nat.zero_le _, rfl, rfl, rfl, hlo, Int.le_refl _, Below.refl _ _⟩
  case round =>
    obtain ⟨k, y, hkn, rfl, rfl, rfl, hy1, hy2, hb⟩ := hrel
    have HB : Hid _ := hb
    clear hb
    have d0 := HD0.out wr HB.out
    by_cases hlt : k < g.n
    · have hki : (k : Int) < (g.n : Int) := by omega
      go_wp2_with fail
      refine (heard_any A base z rb g x sd sn k hg HX.out hlt wr (HW.out.low (bthen HB1.out HB.out)) (HC1.out.low HB.out)).mono ?_
      rintro e w2 ⟨⟨c2, rfl, hc2, hr2⟩, hb2⟩
      have hc2p := RowI.cell hr2 (j := p) (by rw [cnts_length]; exact hp)
      rw [HPe.out k hlt] at hc2p
      have hvk := HVw.out k hlt
      have HB2 : Hid _ := bthen HB.out hb2
      clear hr2 hb2 d0
      generalize (cntW (x.nd k).hs p : Int) = u at *
      by_cases hu : u < y
      · go_wp2_with fail
        go_roundw
        case rel => exact ⟨k + 1, u, by omega, by go_num, rfl, rfl, hvk, by omega, HB2.out⟩
        case measure => simp [intOf]; omega
      · go_wp2_with fail
        go_roundw
        case rel => exact ⟨k + 1, y, by omega, by go_num, rfl, rfl, hy1, hy2, HB2.out⟩
        case measure => simp [intOf]; omega
    · have hkn' : k = g.n := by omega
      subst hkn'
      have HBr : Hid _ := bthen HB1.out HB.out
      have HCr : Hid _ := HCi.out.low HBr.out
      have d4 := HCr.out.c4
      go_wp2_with fail
      refine (HNS.out wr HBr.out).mono ?_
      rintro e w3 ⟨rfl, hd⟩
      have HD : Hid _ := hd
      obtain ⟨hC3, hb3⟩ := CircZ.did HCr.out HCz.out hd
      have HC3 : Hid _ := hC3
      obtain ⟨C3, hCi3, hCf3⟩ := HCr.out.did hd
      have HCi3 : Hid _ := hCi3
      have HCf3 : Hid _ := hCf3
      have HB3 : Hid _ := hb3
      have HSl3 : Hid (Sl w3 A base) := hd.sl (HW.out.low HBr.out) (fun k hk => Nat.le_trans hz (HCz.out k (Or.inr (Or.inl hk))))
      have HFc : Hid (¬ C.Fx c) := fun hf => by
        have := HCi.out.net.lt hf
        omega
      have hcz1 : c < w1.heap.size := RowI.lt HR.out
      have HR3 : Hid (RowI w3 c (cnts g.n (x.nd p).hs)) := by
        have h1 : RowI wr c (cnts g.n (x.nd p).hs) := RowI.below HR.out HB.out hcz1
        exact (hd.rest.block c h1.lt HFc.out).trans h1
      have HNc : Hid (¬ C3.foot rb sd sn c) := fun hf => by
        rcases HCf3.out c hf with h1 | h1
        · have := HCi.out.lt h1
          omega
        · have := HB.out.size
          omega
      have HZ3 : Hid (∀ k, C3.foot rb sd sn k → z ≤ k) := fun k hk => by
        rcases HCf3.out k hk with h1 | h1
        · exact HCz.out k h1
        · have := HC.out.le
          have := HBr.out.size
          omega
      clear hd hC3 hb3 d4 d0 hcp hCi3 hCf3
      go_wp2_with fail
      refine (heard_any A base z rb g R.x sd sn p hg HX'.out hp w3 HSl3.out HC3.out).mono ?_
      rintro e w4 ⟨⟨c4, rfl, hc4, hr4⟩, hb4⟩
      have HR4 : Hid (RowI w4 c (cnts g.n (x.nd p).hs)) := RowI.below HR3.out hb4 (RowI.lt HR3.out)
      have hcp := RowI.cell HR4.out (j := p) (by rw [cnts_length]; exact hp)
      rw [HPp.out] at hcp
      have hcn := RowI.cell hr4 (j := p) (by rw [cnts_length]; exact hp)
      have HB4 : Hid (Below z wr w4) := HB3.out.trans (hb4.mono (Nat.le_trans HC.out.le (Nat.le_trans HBr.out.size (by have := HD.out.rest.size; omega))))
      have HC4 : Hid _ := HC3.out.low hb4
      have hC4 := HCi3.out.low hb4
      have HNc4 : Hid (¬ C3.foot rb sd sn c4) := fun hf => by
        have := HCi3.out.lt hf
        omega
      have HC4o : Hid _ := hC4.sown
      have HC4c : Hid _ := hC4
      obtain ⟨e0, e1, e2, e3, _, e5, _, _, _, _, _, _, _, _, _⟩ := hC4
      clear hr4 hb4
      rcases HSF.out with ⟨hk, hq, hnow, hs1, hs2, hs3⟩ | ⟨hk, hq, hnow⟩
      · rw [hnow] at hcn
        rw [hq, hk]
        obtain ⟨i0, hi, hz0, hz1, hz2⟩ := info_parts Tryz.saidInfo
        have HSO : Hid _ := HC4o.out
        go_wp2_with (at_builtin; refine wpList_append_own_at _ rfl (.tmp 143) (.tmp 149) 37 rfl 0 93 i0 _ 4 56 Tryz.underlying37 hi hz0 hz1 hz2 rfl (by decide) _ _ _ rfl (World.ownsRow.alloc HSO.out _) ⟨w4.heap.size, 0, none⟩ 1 1 [.int .i64 (p : Int), .int .i64 (P + 1), .string s, .slice (some ⟨c, 0, none⟩) g.n g.n] rfl rfl ?q1 ?q2 (by unfold maxLen; omega) (by omega) (Nat.zero_le _) ?_)
        case q1 =>
          intro q u hq
          match q, hq with
          | 0, hq => simp at hq; subst hq; simp [Addr.add]
          | 1, hq => simp at hq; subst hq; simp [Addr.add]
          | 2, hq => simp at hq; subst hq; simp [Addr.add]
          | 3, hq => simp at hq; subst hq; simp [Addr.add]
        case q2 =>
          intro u hu
          simp at hu
          rcases hu with rfl | rfl | rfl | rfl <;> rfl
        intro v' w6 hown hgrow _ hat
        have HOM : Hid (∀ j, (Value.slice C3.sa sd.length C3.scap).ownBlock = some j → onB C3.sa j) := fun j hj => own_onB HC4o.out hj
        have HA6 : Hid (Alike w4 w6 (onB C3.sa)) := (Alike.of_below (below1 w4 _) _).trans (Alike.of_grown hgrow) (fun j _ hj => HOM.out j hj)
        obtain ⟨a6, cc6, hg6⟩ := rowShaped hown
        subst hg6
        have HNw : Hid (∀ j, onB a6 j → onB C3.sa j ∨ w4.heap.size ≤ j) := fun j ⟨off, hj⟩ => by
          rcases hown.2 with ⟨he, _⟩ | ⟨g', cap', cur', he, _⟩
          · rw [hj] at he; cases he
          · cases he
            cases hj
            rcases hat with h | h
            · exact Or.inl (HOM.out _ h.symm)
            · cases h
              refine Or.inr ?_
              simp
        have HFc4 : Hid (¬ C3.Fx c) := fun hf => HNc.out (Or.inr (Or.inl hf))
        have HC7 : Hid _ := HC4c.out.more (s := saidSd g x p s c) HA6.out (by rw [HSd.out]; exact hown) HNw.out (by rw [HSd.out]; exact HR4.out) (by rw [HSd.out]; exact cnts_length _ _) (by rw [HSd.out]; exact HFc4.out)
        have HZ7 : Hid (∀ k, CLay.foot { C3 with sa := a6, scap := cc6 } rb (sd ++ [saidSd g x p s c]) sn k → z ≤ k) := fun k hk => by
          have hzw : z ≤ w4.heap.size := HC4.out.le
          rcases hk with e | hk | hk | hk | ⟨t, ht, e⟩ | ⟨t, ht, hk⟩
          · exact HZ3.out k (Or.inl e)
          · exact HZ3.out k (Or.inr (Or.inl hk))
          · rcases HNw.out k hk with h1 | h1
            · exact HZ3.out k (Or.inr (Or.inr (Or.inl h1)))
            · omega
          · exact HZ3.out k (Or.inr (Or.inr (Or.inr (Or.inl hk))))
          · rcases List.mem_append.1 ht with h1 | h1
            · exact HZ3.out k (Or.inr (Or.inr (Or.inr (Or.inr (Or.inl ⟨t, h1, e⟩)))))
            · rw [List.mem_singleton.1 h1] at e
              have e' : k = c := e
              have := HC.out.le
              omega
          · exact HZ3.out k (Or.inr (Or.inr (Or.inr (Or.inr (Or.inr ⟨t, ht, hk⟩)))))
        have hrb6 : ¬ onB C3.sa rb := fun hc => (HC4c.out.offs.1 rb hc).1 rfl
        have f0 := HA6.out.cell e0 hrb6
        have f1 := HA6.out.cell e1 hrb6
        have f2 := HA6.out.cell e2 hrb6
        have f3 := HA6.out.cell e3 hrb6
        have f5 := HA6.out.cell e5 hrb6
        have ff : w6.frozen? ⟨rb, 5, none⟩ = false := HA6.out.frozen (lt_of_cell e0) (frozen_ty HC4c.out.ty 5) hrb6
        have hcsa : ¬ onB C3.sa c := fun hf => HNc.out (Or.inr (Or.inr (Or.inl hf)))
        have hcsn : ¬ onB C3.sa c4 := fun hf => HNc4.out (Or.inr (Or.inr (Or.inl hf)))
        have fp := HA6.out.cell hcp hcsa
        have fn := HA6.out.cell hcn hcsn
        clear hown hgrow hat e0 e1 e2 e3 e5 hcp hcn
        have hw1 : IntKind.i64.wrap (P + 1) = P + 1 := by rw [IntKind.wrap_i64]; omega
        have hw2 : IntKind.i64.wrap (P - y) = P - y := by rw [IntKind.wrap_i64]; omega
        have hs2' : P + 1 ≤ g.L := by omega
        have hs3' : P - y < g.W := by omega
        have ha6 := alike1 w6 rb 5 (.slice a6 (sd.length + 1) cc6)
        have hcrb : c ≠ rb := fun e => HNc.out (Or.inl e)
        have hcrb4 : c4 ≠ rb := fun e => HNc4.out (Or.inl e)
        have g1 : (w6.setCell ⟨rb, 5, none⟩ (.slice a6 (sd.length + 1) cc6)).cell? ⟨rb, 1, none⟩ = some (.int .i64 g.W) := (World.cell?_setCell_other _ _ _ _ (by intro h; simp only [Addr.mk.injEq] at h; omega)).trans f1
        have g2 : (w6.setCell ⟨rb, 5, none⟩ (.slice a6 (sd.length + 1) cc6)).cell? ⟨rb, 2, none⟩ = some (.int .i64 g.B) := (World.cell?_setCell_other _ _ _ _ (by intro h; simp only [Addr.mk.injEq] at h; omega)).trans f2
        have g3 : (w6.setCell ⟨rb, 5, none⟩ (.slice a6 (sd.length + 1) cc6)).cell? ⟨rb, 3, none⟩ = some (.int .i64 g.L) := (World.cell?_setCell_other _ _ _ _ (by intro h; simp only [Addr.mk.injEq] at h; omega)).trans f3
        have gp := ha6.cell fp hcrb
        have gn := ha6.cell fn hcrb4
        have HB6 : Hid (Below z w4 w6) := below_of_alike HA6.out (fun k hk => HZ3.out k (Or.inr (Or.inr (Or.inl hk)))) HC4.out.le
        have HB7 : Hid (Below z w4 (w6.setCell ⟨rb, 5, none⟩ (.slice a6 (sd.length + 1) cc6))) := HB6.out.setCell (HZ3.out rb (Or.inl rfl)) _
        clear ha6
        go_wp2_with fail
        go_quiet (fail)
        go_wp2_with fail
        go_ret
        refine ⟨rfl, (HBr.out.mono HC.out.le).trans (HB4.out.trans (below_drewN HB7.out _)), Or.inl ⟨hk, c, CircZ.low ⟨_, HC7.out, HZ7.out⟩ (below_drewN (Below.refl _ _) _)⟩⟩
      · rw [hnow] at hcn
        rw [hq]
        rcases hk with ⟨hk, hc⟩ | ⟨hk, hc⟩ | ⟨hk, hc⟩
        · rw [hk]
          have hcl : g.B < (s.size : Int) := hc
          go_wp2_with fail
          go_region
          go_wp2_with fail
          go_quiet (fail)
          go_wp2_with fail
          go_ret
          refine ⟨rfl, (HBr.out.mono HC.out.le).trans ?_, Or.inr ⟨by rw [hk]; decide, HC4.out.low ?_⟩⟩
          · first | exact HB4.out.drew.drew | exact below_drewN HB4.out.drew _ | exact (below_drewN HB4.out _).drew
          · first | exact (Below.refl _ _).drew.drew | exact below_drewN (Below.refl _ _).drew _ | exact (below_drewN (Below.refl _ _) _).drew
        · rw [hk]
          subst hc
          go_wp2_with fail
          go_quiet (fail)
          go_wp2_with fail
          go_region
          go_wp2_with fail
          go_ret
          refine ⟨rfl, (HBr.out.mono HC.out.le).trans ?_, Or.inr ⟨by rw [hk]; decide, HC4.out.low ?_⟩⟩
          · first | exact HB4.out.drew.drew | exact below_drewN HB4.out.drew _ | exact (below_drewN HB4.out _).drew
          · first | exact (Below.refl _ _).drew.drew | exact below_drewN (Below.refl _ _).drew _ | exact (below_drewN (Below.refl _ _) _).drew
        · rw [hk]
          obtain rfl : settled = false := by
            cases hst : settled with
            | false => rfl
            | true => exact absurd hc (HSet.out hst)
          go_wp2_with fail
          go_region
          go_wp2_with fail
          go_region
          go_wp2_with fail
          go_ret
          refine ⟨rfl, (HBr.out.mono HC.out.le).trans ?_, Or.inr ⟨by rw [hk]; decide, HC4.out.low ?_⟩⟩
          · first | exact HB4.out.drew.drew | exact below_drewN HB4.out.drew _ | exact (below_drewN HB4.out _).drew
          · first | exact (Below.refl _ _).drew.drew | exact below_drewN (Below.refl _ _).drew _ | exact (below_drewN (Below.refl _ _) _).drew
end Go.Proofs.YtabecbjfamphbaaGreatDoor
