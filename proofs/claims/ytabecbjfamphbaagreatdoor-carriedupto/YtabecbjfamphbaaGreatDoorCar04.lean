/-
  Texts that the proofs of this seat share, joined: Jc.
-/
import Derived.Test.YtabecbjfamphbaaGreatDoorCar03
import Derived.Test.YtabecbjfamphbaaGreatDoorB38
/- hearsaykeep: carried. -/
namespace Go.Proofs.YtabecbjfamphbaaGreatDoor
open Go.RowKit Go.Stop Go.Extern

theorem Wld.copy {g : Gr} {x : MNet} {m : Nat} (h : Wld g x m) {t : Pk} (ht : t ∈ x.bag) : Wld g { x with bag := x.bag ++ [t] } (m + 1) :=
  ⟨h.nd, fun u hu => by
    rcases List.mem_append.1 hu with h1 | h1
    · exact h.bag u h1
    · rw [List.mem_singleton] at h1; subst h1; exact h.bag _ ht, fun p hp => ⟨(h.ref p hp).1, by have := (h.ref p hp).2; show x.ref p ≤ _; omega⟩, by have := h.few; show (x.bag ++ [t]).length ≤ _; rw [List.length_append]; simp; omega⟩
theorem deliver_ndG (g : Gr) (x : MNet) (k tn : Nat) (t : ByteArray) : (x.deliver g k ⟨(tn : Int), t⟩).nd = upd x.nd tn ((x.nd tn).hear g tn t).s := by
  unfold MNet.deliver
  show MNet.nd (let r := (x.nd ((tn : Int).toNat)).hear g ((tn : Int).toNat) t; let z : MNet := { x.put ((tn : Int).toNat) r.s with bag := x.bag.eraseIdx k ++ r.ps }; if r.k = 0 then z else z.refuse ((tn : Int).toNat)) = _
  rw [Int.toNat_natCast]
  simp only
  split <;> rfl
theorem deliver_bagG (g : Gr) (x : MNet) (k tn : Nat) (t : ByteArray) : (x.deliver g k ⟨(tn : Int), t⟩).bag = x.bag.eraseIdx k ++ ((x.nd tn).hear g tn t).ps := by
  unfold MNet.deliver
  show MNet.bag (let r := (x.nd ((tn : Int).toNat)).hear g ((tn : Int).toNat) t; let z : MNet := { x.put ((tn : Int).toNat) r.s with bag := x.bag.eraseIdx k ++ r.ps }; if r.k = 0 then z else z.refuse ((tn : Int).toNat)) = _
  rw [Int.toNat_natCast]
  simp only
  split <;> rfl
/-- A net behind m steps, and the same by hand. -/
def JRan (z : Nat) (w : World) (rb hb : Nat) (g : Gr) (sd : List Sd) (sn : List Sn) (m : Nat) : Prop := ∃ x, Two z (fun _ => False) w rb hb g x x.nd x.bag sd sn ∧ Wld g x m
theorem TwoAt.none {z : Nat} {R : Nat → Prop} {w : World} {rb hb : Nat} {g : Gr} {x : MNet} {nd : Nat → NS} {bag : List Pk} {sd : List Sd} {sn : List Sn} {C : CLay} {M : JLay} (h : TwoAt z R w rb hb g x nd bag sd sn C M) : Two z (fun _ => False) w rb hb g x nd bag sd sn := ⟨C, M, h.c, h.cz, h.m, h.mz, h.sep, fun _ hk => hk.elim⟩
theorem blk_cell {w y : World} {q i : Nat} {v : Value} (h : y.heap[q]? = w.heap[q]?) (hc : w.cell? ⟨q, i, none⟩ = some v) : y.cell? ⟨q, i, none⟩ = some v := (World.cell?_of_block (w := w) h).trans hc
set_option maxRecDepth 100000 in
set_option maxHeartbeats 8000000 in
theorem carried_any (A : Nat → Addr) (base z rb hb : Nat) (g : Gr) (sd : List Sd) (sn : List Sn) (m : Nat) (o : Stp) (ho : o.Ok) (hg : g.Ok) (hm : m + 1 ≤ 10000000) (w : World) (hw : Sl w A base) (hz : base ≤ z) (h : JRan z w rb hb g sd sn m) :
    Calls Tryz.prog 28 #[.pointer (some ⟨rb, 0, none⟩), .pointer (some ⟨hb, 0, none⟩), o.val] w fun e w' => e = .returned (.bool true) ∧ JRan z w' rb hb g sd sn (m + 1) ∧ Below z w w' := by
  obtain ⟨x, ⟨C, M, hT⟩, hWl⟩ := h
  obtain ⟨K, a, b, v, s, f0, f1, f2, f3, f4, fa, fl, fc, fb⟩ := o
  obtain ⟨hK, ha, hb', hv⟩ := ho
  simp only at hK ha hb' hv
  have HW : Hid (Sl w A base) := hw
  have HWl : Hid (Wld g x m) := hWl
  have HT : Hid (TwoAt z (fun _ => False) w rb hb g x x.nd x.bag sd sn C M) := hT
  have hn := hg.n
  have HX : Hid (x.Ok g) := hWl.ok (by omega)
  have hlen : x.bag.length ≤ 100000000000 := HX.out.len
  have hpb := pk_bd a (g.n : Int) (by omega)
  have hjb := pk_bd K 5 (by omega)
  have HPk : Hid _ := fun y => pick_any a (g.n : Int) y ha (by omega) (by omega)
  have HPK : Hid _ := fun y => pick_any K 5 y hK (by omega) (by omega)
  have HA : Hid (I64 a) := ha
  have HG : Hid g.Ok := hg
  generalize pk a (g.n : Int) = pp at *
  generalize pk K 5 = j at *
  obtain ⟨p, rfl⟩ : ∃ p : Nat, pp = p := ⟨pp.toNat, by omega⟩
  have hp : p < g.n := by omega
  have c0 := hT.c.c0
  have c4 := hT.c.c4
  unfold Stp.val
  clear hw hT hWl ha hb' hv hK hg
  go_enter Tryz.func28, Tryz.ntmps28
  have HBx : Hid (∀ (y : World), y.heap[w.heap.size]? = (w.alloc (.cells #[.int .i64 K, .int .i64 a, .int .i64 b, .int .i64 v, .string s, .int .i64 f0, .int .i64 f1, .int .i64 f2, .int .i64 f3, .int .i64 f4, .slice fa fl fc, .string fb] 47)).heap[w.heap.size]? → y.cell? ⟨w.heap.size, 0, none⟩ = some (.int .i64 K) ∧ y.cell? ⟨w.heap.size, 1, none⟩ = some (.int .i64 a) ∧ y.cell? ⟨w.heap.size, 4, none⟩ = some (.string s)) := fun y hy => by
    have e : ∀ i, y.cell? ⟨w.heap.size, i, none⟩ = #[Value.int .i64 K, .int .i64 a, .int .i64 b, .int .i64 v, .string s, .int .i64 f0, .int .i64 f1, .int .i64 f2, .int .i64 f3, .int .i64 f4, .slice fa fl fc, .string fb][i]? := fun i => (World.cell?_of_block (w := w.alloc _) hy).trans (cell_of_row _ _ i _ _ (0, 0) (heap_alloc_new _ _))
    exact ⟨e 0, e 1, e 4⟩
  have HB0 : Hid (Below w.heap.size w (w.alloc (.cells #[.int .i64 K, .int .i64 a, .int .i64 b, .int .i64 v, .string s, .int .i64 f0, .int .i64 f1, .int .i64 f2, .int .i64 f3, .int .i64 f4, .slice fa fl fc, .string fb] 47))) := below1 w _
  have HT0 : Hid (TwoAt z (fun k => k = w.heap.size) (w.alloc (.cells #[.int .i64 K, .int .i64 a, .int .i64 b, .int .i64 v, .string s, .int .i64 f0, .int .i64 f1, .int .i64 f2, .int .i64 f3, .int .i64 f4, .slice fa fl fc, .string fb] 47)) rb hb g x x.nd x.bag sd sn C M) := HT.out.more (below1 w _) (fun k hk => Or.inr (by rw [hk]; simp))
  have c0' := (HB0.out.cell (p := ⟨rb, 0, none⟩) (lt_of_cell c0)).trans c0
  obtain ⟨b0, b1, b4⟩ := HBx.out _ rfl
  go_wp2_with fail
  generalize w.alloc (.cells #[.int .i64 K, .int .i64 a, .int .i64 b, .int .i64 v, .string s, .int .i64 f0, .int .i64 f1, .int .i64 f2, .int .i64 f3, .int .i64 f4, .slice fa fl fc, .string fb] 47) = X at *
  have HZw : Hid (z ≤ w.heap.size) := HT.out.le
  go_quiet (first | (go_at_call 21; exact Calls.quiet_of_same (HPk.out _)))
  have c4' := HT0.out.c.c4
  go_wp2_with fail
  refine (netLeft C.fb g x C.Fx _ (HT0.out.c.net.low (by first | exact Below.refl _ _ | exact (Below.refl _ _).drew | exact below_drewN (Below.refl _ _) _))).mono ?_
  rintro e w1 ⟨rfl, hw1⟩
  have HB1 : Hid (Below X.heap.size X w1) := by
    rw [hw1]
    first | exact Below.refl _ _ | exact (Below.refl _ _).drew | exact below_drewN (Below.refl _ _) _
  have HT1 : Hid (TwoAt z (fun k => k = w.heap.size) w1 rb hb g x x.nd x.bag sd sn C M) := HT0.out.low HB1.out
  have HBz : Hid (Below z w w1) := (HB0.out.mono HZw.out).trans (HB1.out.mono (Nat.le_trans HZw.out HB0.out.size))
  have HW1 : Hid (Sl w1 A base) := (HW.out.low HB0.out).low HB1.out
  have HQ : Hid (∀ y : World, y.heap[w.heap.size]? = w1.heap[w.heap.size]? → y.cell? ⟨w.heap.size, 0, none⟩ = some (.int .i64 K) ∧ y.cell? ⟨w.heap.size, 1, none⟩ = some (.int .i64 a) ∧ y.cell? ⟨w.heap.size, 4, none⟩ = some (.string s)) := fun y hy => HBx.out y (hy.trans (HB1.out.block _ (HT0.out.res _ rfl).1))
  clear hw1 c0' b0 b1 b4 c4' c0 c4
  obtain ⟨b0, b1, b4⟩ := HQ.out w1 rfl
  have h1 := HT1.out.m.way.c1
  have h0 := HT1.out.m.c0
  have hmem := HT1.out.m.mem p hp
  have c4 := HT1.out.c.c4
  have hpi : (p : Int) < (g.n : Int) := by omega
  have HFb : Hid (∀ k, C.Fx k → base ≤ k) := fun k hk => Nat.le_trans hz (HT1.out.cz k (Or.inr (Or.inl hk)))
  go_wp2_with fail
  refine (show Calls _ _ _ _ _ from HPK.out _).mono ?_
  rintro e w2 ⟨rfl, hw2⟩
  subst hw2
  by_cases j0 : j = 0
  · subst j0
    have HSR : Hid (x.sayR g p s = ⟨((x.nd p).say g p s).q, ((x.nd p).say g p s).k, x.say g p s⟩) := sayR_eq hp s
    have HWs : Hid (Wld g (x.say g p s) (m + 1)) := by
      have h1 := HWl.out.say HG.out hp s
      rw [HSR.out] at h1
      exact h1
    have HSy : Hid (∀ y, Below w2.heap.size w2 y → Calls Tryz.prog 40 #[.pointer (some ⟨C.fb, 0, none⟩), .int .i64 (p : Int), .string s] y fun e w' => e = .returned (.tuple #[.int .i64 ((x.nd p).say g p s).q, .int .i64 (((x.nd p).say g p s).k : Int)]) ∧ NDid y w' C.fb g C.Fx (x.say g p s)) := fun y hy => by
      have h1 := netSay A base C.fb g x C.Fx p s HG.out HX.out y (HW1.out.low hy) HFb.out (HT1.out.c.net.low hy)
      rw [HSR.out] at h1
      exact h1
    have HNq : Hid (¬ C.Fx rb ∧ ¬ C.Fx w.heap.size) := ⟨fun h => (HT1.out.c.sep rb h).1 rfl, fun h => (HT1.out.res _ rfl).2.1 (Or.inr (Or.inl h))⟩
    go_wp2_with fail
    go_region_held3 (fun y => y.cell? ⟨rb, 4, none⟩ = some (.pointer (some ⟨C.fb, 0, none⟩)) ∧ y.cell? ⟨w.heap.size, 4, none⟩ = some (.string s)) (first | (exact ⟨c4, b4⟩) | (exact HK3.out) | go_keep)
      (first | (go_at_call 40; refine (show Calls _ _ _ _ _ from HSy.out _ (by first | exact (Below.refl _ _).drew | exact Below.refl _ _ | exact below_drewN (Below.refl _ _) _)).mono ?_; rintro e w4 ⟨rfl, hd3⟩; have HD3 : Hid (NDid w2.drew w4 C.fb g C.Fx (x.say g p s)) := hd3; have HK3 : Hid (w4.cell? ⟨rb, 4, none⟩ = some (.pointer (some ⟨C.fb, 0, none⟩)) ∧ w4.cell? ⟨w.heap.size, 4, none⟩ = some (.string s)) := ⟨hd3.rest.cell c4 HNq.out.1, hd3.rest.cell b4 HNq.out.2⟩; clear hd3))
    obtain ⟨⟨C2, hT2⟩, hb2, hr2⟩ := (HT1.out.low (Below.refl _ _).drew).net HD3.out
    have HT2 : Hid (TwoAt z (fun k => k = w.heap.size) w4 rb hb g (x.say g p s) x.nd x.bag sd sn C2 M) := hT2
    have HBz2 : Hid (Below z w w4) := HBz.out.trans ((Below.refl _ _).drew.trans hb2)
    have HW2 : Hid (Sl w4 A base) := HD3.out.sl (HW1.out.low (Below.refl _ _).drew) HFb.out
    obtain ⟨_, d1, d4⟩ := HQ.out w4 (hr2 _ rfl)
    have hz2 : base ≤ z := hz
    clear hT2 hb2 hr2 c4 b0 b1 b4 h0 h1 hmem
    rename_i hHeld
    clear hHeld
    have h0 := HT2.out.m.c0
    have hmem := HT2.out.m.mem p hp
    have HFS : Hid (∀ y, Below w4.heap.size w4 y → Calls Tryz.prog 54 #[.pointer (some ⟨M.fb p, 0, none⟩), .string s] y fun e w' => ∃ v, e = .returned (.tuple #[.int .i64 ((x.nd p).say g p s).q, v, .int .i64 (((x.nd p).say g p s).k : Int)]) ∧ Did y w' (M.nb p) g p (M.Fp p) ((x.nd p).say g p s).s v ((x.nd p).say g p s).ps) := fun y hy => by
      have hmy := HT2.out.m.low hy
      exact faceSay A base (M.fb p) (M.nb p) g p (x.nd p) (M.Fp p) s HG.out hp (HX.out.nd p hp) y (hmy.face p hp) (HW2.out.low hy) (fun k hk => Nat.le_trans hz2 (HT2.out.mz k (Or.inr (Or.inr (Or.inr (Or.inr ⟨p, hp, hk⟩)))))) (hmy.node p hp)
    have HNp : Hid (¬ M.Fp p hb ∧ ¬ M.Fp p M.gn ∧ ¬ M.Fp p w.heap.size) := ⟨fun h => (HT2.out.m.sep p hp _ h).1 rfl, fun h => (HT2.out.m.sep p hp _ h).2.1 rfl, fun h => (HT2.out.res _ rfl).2.2 (Or.inr (Or.inr (Or.inr (Or.inr ⟨p, hp, h⟩))))⟩
    go_wp2_with fail
    go_region_held3 (fun y => y.cell? ⟨hb, 0, none⟩ = some (.slice (some ⟨M.gn, 0, none⟩) g.n M.ncap) ∧ y.cell? ⟨M.gn, p, none⟩ = some (.pointer (some ⟨M.fb p, 0, none⟩)) ∧ y.cell? ⟨w.heap.size, 4, none⟩ = some (.string s)) (first | (exact ⟨h0, hmem, d4⟩) | (exact HK5.out) | go_keep)
      (first | (go_at_call 54; refine (show Calls _ _ _ _ _ from HFS.out _ (by first | exact (Below.refl _ _).drew | exact Below.refl _ _ | exact below_drewN (Below.refl _ _) _)).mono ?_; rintro e w5 ⟨lv, rfl, hd5⟩; obtain ⟨av, cv, hsh⟩ := rowShaped hd5.pks.own; subst hsh; have HD5 : Hid (Did w4.drew w5 (M.nb p) g p (M.Fp p) ((x.nd p).say g p s).s (.slice av ((x.nd p).say g p s).ps.length cv) ((x.nd p).say g p s).ps) := hd5; have HK5 : Hid (w5.cell? ⟨hb, 0, none⟩ = some (.slice (some ⟨M.gn, 0, none⟩) g.n M.ncap) ∧ w5.cell? ⟨M.gn, p, none⟩ = some (.pointer (some ⟨M.fb p, 0, none⟩)) ∧ w5.cell? ⟨w.heap.size, 4, none⟩ = some (.string s)) := ⟨hd5.rest.cell h0 HNp.out.1, hd5.rest.cell hmem HNp.out.2.1, hd5.rest.cell d4 HNp.out.2.2⟩; clear hd5))
    obtain ⟨⟨M5, hT5, hwa5⟩, hb5, hr5⟩ := (HT2.out.low (Below.refl _ _).drew).hand hp HD5.out
    have HT5 : Hid (TwoAt z (fun k => k = w.heap.size) w5 rb hb g (x.say g p s) (upd x.nd p ((x.nd p).say g p s).s) x.bag sd sn C2 M5) := hT5
    have HBz5 : Hid (Below z w w5) := HBz2.out.trans ((Below.refl _ _).drew.trans hb5)
    have HNe : Hid (∀ k, (Value.slice av ((x.nd p).say g p s).ps.length cv).ownBlock = some k → k ≠ hb ∧ ¬ onB M5.wa k) := fun k hk => by
      have h1 := HD5.out.pks.block k hk
      have h2 : w4.heap.size ≤ k := h1
      refine ⟨fun e => ?_, fun hc => ?_⟩
      · have := HT2.out.m.lt (Or.inl e)
        omega
      · rw [hwa5] at hc
        have := HT2.out.m.lt (Or.inr (Or.inr (Or.inl hc)))
        omega
    have HLy : Hid _ := hlay_any hb M5.wa M5.wcap x.bag ((x.nd p).say g p s).ps _ _ w5 HT5.out.m.way HD5.out.pks HNe.out (by
      have h1 := HWs.out.few
      have h2 : (x.say g p s).bag = x.bag ++ ((x.nd p).say g p s).ps := rfl
      rw [h2, List.length_append] at h1
      omega)
    clear hT5 hb5 hr5 hwa5 d1 d4 h0 hmem
    rename_i hHeld
    clear hHeld
    generalize hS : (x.nd p).say g p s = S at *
    go_wp2_with fail
    refine (show Calls _ _ _ _ _ from HLy.out).mono ?_
    rintro e w6 ⟨rfl, hl6⟩
    obtain ⟨⟨M6, hT6⟩, hb6, _⟩ := HT5.out.laid hl6
    have HE : Hid (JRan z w6 rb hb g sd sn (m + 1) ∧ Below z w w6) := by
      refine ⟨⟨x.say g p s, ?_, HWs.out⟩, HBz5.out.trans hb6⟩
      have h1 : (x.say g p s).nd = upd x.nd p S.s := by
        show (x.put p ((x.nd p).say g p s).s).nd = _
        rw [hS]
        rfl
      have h2 : (x.say g p s).bag = x.bag ++ S.ps := by
        show x.bag ++ ((x.nd p).say g p s).ps = _
        rw [hS]
      rw [h1, h2]
      exact hT6.none
    clear hl6 hT6 hb6
    go_wp2_with fail
    go_ret
    exact ⟨rfl, HE.out.1, HE.out.2⟩
  · by_cases j1 : j = 1
    · subst j1
      have HTk : Hid _ := netTick A base C.fb g x C.Fx p HG.out HX.out w2 HW1.out HFb.out HT1.out.c.net
      rw [tickR_at hp] at HTk
      go_wp2_with fail
      refine (show Calls _ _ _ _ _ from HTk.out).mono ?_
      rintro e w4 ⟨rfl, hd3⟩
      obtain ⟨⟨C2, hT2⟩, hb2, hr2⟩ := HT1.out.net hd3
      have HT2 : Hid (TwoAt z (fun k => k = w.heap.size) w4 rb hb g (x.tick g p) x.nd x.bag sd sn C2 M) := hT2
      have HBz2 : Hid (Below z w w4) := HBz.out.trans hb2
      have HW2 : Hid (Sl w4 A base) := hd3.sl HW1.out HFb.out
      clear hT2 hb2 hr2 c4 b0 b1 b4 h0 h1 hmem hd3 HTk
      have h0 := HT2.out.m.c0
      have hmem := HT2.out.m.mem p hp
      have HFT : Hid _ := faceTick A base (M.fb p) (M.nb p) g p (x.nd p) (M.Fp p) HG.out hp (HX.out.nd p hp) w4 (HT2.out.m.face p hp) HW2.out (HT2.out.m.node p hp)
      go_wp2_with fail
      refine (show Calls _ _ _ _ _ from HFT.out).mono ?_
      rintro e w5 ⟨⟨lv, rfl, hpk⟩, hb5⟩
      obtain ⟨av, cv, hsh⟩ := rowShaped hpk.own
      subst hsh
      have HT5 : Hid (TwoAt z (fun k => k = w.heap.size) w5 rb hb g (x.tick g p) x.nd x.bag sd sn C2 M) := HT2.out.low hb5
      have HBz5 : Hid (Below z w w5) := HBz2.out.trans (hb5.mono HT2.out.le)
      have HNe : Hid (∀ k, (Value.slice av ((x.nd p).tick g p).length cv).ownBlock = some k → k ≠ hb ∧ ¬ onB M.wa k) := fun k hk => by
        have h2 : w4.heap.size ≤ k := hpk.block k hk
        refine ⟨fun e => ?_, fun hc => ?_⟩
        · have := HT2.out.m.lt (Or.inl e)
          omega
        · have := HT2.out.m.lt (Or.inr (Or.inr (Or.inl hc)))
          omega
      have hfew := tick_few HG.out (HX.out.nd p hp)
      have HLy : Hid _ := hlay_any hb M.wa M.wcap x.bag ((x.nd p).tick g p) _ _ w5 HT5.out.m.way hpk HNe.out (by omega)
      clear hpk hb5 h0 hmem
      go_wp2_with fail
      refine (show Calls _ _ _ _ _ from HLy.out).mono ?_
      rintro e w6 ⟨rfl, hl6⟩
      obtain ⟨⟨M6, hT6⟩, hb6, _⟩ := HT5.out.laid hl6
      have HE : Hid (JRan z w6 rb hb g sd sn (m + 1) ∧ Below z w w6) := ⟨⟨x.tick g p, hT6.none, HWl.out.tick HG.out hp⟩, HBz5.out.trans hb6⟩
      clear hl6 hT6 hb6
      go_wp2_with fail
      go_ret
      exact ⟨rfl, HE.out.1, HE.out.2⟩
    · have g0 : (j == 0) = false := by simp [j0]
      have g1 : (j == 1) = false := by simp [j1]
      by_cases hn0 : x.bag.length = 0
      · have HE : Hid (JRan z w2 rb hb g sd sn (m + 1) ∧ Below z w w2) := ⟨⟨x, HT1.out.none, HWl.out.more⟩, HBz.out⟩
        rw [hn0] at h1 ⊢
        go_wp2_with fail
        go_ret
        exact ⟨rfl, HE.out.1, HE.out.2⟩
      · have hkb := pk_bd a (x.bag.length : Int) (by omega)
        have HPl : Hid _ := fun y => pick_any a (x.bag.length : Int) y HA.out (by omega) (by omega)
        generalize pk a (x.bag.length : Int) = kk at *
        obtain ⟨k, rfl⟩ : ∃ k : Nat, kk = k := ⟨kk.toNat, by omega⟩
        obtain ⟨t, hxk⟩ : ∃ t, x.bag[k]? = some t := ⟨x.bag[k], List.getElem?_eq_getElem (by omega)⟩
        have hpk := HWl.out.bag t (List.mem_of_getElem? hxk)
        obtain ⟨tt, tx⟩ := t
        obtain ⟨⟨tn, hto, hton⟩, h100, hra⟩ := hpk
        simp only at hto h100 hra
        subst hto
        have HXk : Hid (x.bag[k]? = some ⟨(tn : Int), tx⟩) := hxk
        have HPe : Hid _ := netPeek A base C.fb g x C.Fx k w2 HW1.out HT1.out.c.net
        rw [peek_net hxk] at HPe
        have hpos : (x.bag.length : Int) ≠ 0 := by omega
        have hpos2 : ((x.bag.length : Int) == 0) = false := beq_eq_false_iff_ne.2 hpos
        have hki : (k : Int) < (x.bag.length : Int) := by omega
        clear hxk hra
        go_wp2_with fail
        refine (show Calls _ _ _ _ _ from HPl.out _).mono ?_
        rintro e w3 ⟨rfl, hw3⟩
        subst hw3
        go_wp2_with fail
        refine (show Calls _ _ _ _ _ from HPe.out).mono ?_
        rintro e w4 ⟨rfl, hb4⟩
        have HBx4 : Hid (∀ (y : World), y.heap[w4.heap.size]? = (w4.alloc (.cells #[.int .i64 (tn : Int), .string tx] 109)).heap[w4.heap.size]? → y.cell? ⟨w4.heap.size, 0, none⟩ = some (.int .i64 (tn : Int)) ∧ y.cell? ⟨w4.heap.size, 1, none⟩ = some (.string tx)) := fun y hy => by
          have e : ∀ i, y.cell? ⟨w4.heap.size, i, none⟩ = #[Value.int .i64 (tn : Int), .string tx][i]? := fun i => (World.cell?_of_block (w := w4.alloc _) hy).trans (cell_of_row _ _ i _ _ (0, 0) (heap_alloc_new _ _))
          exact ⟨e 0, e 1⟩
        have HBY : Hid (Below w3.heap.size w3 (w4.alloc (.cells #[.int .i64 (tn : Int), .string tx] 109))) := bthen hb4 (below1 _ _)
        have HT4 : Hid (TwoAt z (fun k => k = w4.heap.size) (w4.alloc (.cells #[.int .i64 (tn : Int), .string tx] 109)) rb hb g x x.nd x.bag sd sn C M) := HT1.out.more HBY.out (fun k hk => Or.inr (by rw [hk]; exact ⟨hb4.size, by simp⟩))
        obtain ⟨u0, u1⟩ := HBx4.out _ rfl
        clear hb4 HPe b0 b1 b4 h0 h1 hmem c4
        go_wp2_with fail
        generalize w4.alloc (.cells #[.int .i64 (tn : Int), .string tx] 109) = Y at *
        generalize w4.heap.size = q2 at *
        have HBzY : Hid (Below z w Y) := HBz.out.trans (HBY.out.mono HT1.out.le)
        have HWY : Hid (Sl Y A base) := HW1.out.low HBY.out
        have h1 := HT4.out.m.way.c1
        have c0 := HT4.out.c.c0
        have c4 := HT4.out.c.c4
        obtain ⟨gw, hgw, _, v0, v1⟩ := (⟨HT4.out.m.way.own⟩ : Pks Y 0 (.slice M.wa x.bag.length M.wcap) x.bag).get HXk.out
        rw [hgw] at h1
        have hton2 : ¬ (g.n : Int) ≤ (tn : Int) := by omega
        have htn0 : ¬ (tn : Int) < 0 := by omega
        simp only at v0 v1
        go_quiet (fail)
        clear v0 v1 h1 c0 hgw
        have HNq : Hid (¬ C.Fx rb ∧ ¬ C.Fx q2) := ⟨fun h => (HT4.out.c.sep rb h).1 rfl, fun h => (HT4.out.res _ rfl).2.1 (Or.inr (Or.inl h))⟩
        by_cases j2 : j = 2
        · subst j2
          obtain ⟨hh, hWd⟩ := HWl.out.deliver HG.out k tx hton
          have HWd : Hid (Wld g (x.deliver g k ⟨(tn : Int), tx⟩) (m + 1)) := hWd
          have HDl : Hid (∀ y, Below Y.heap.size Y y → Calls Tryz.prog 41 #[.pointer (some ⟨C.fb, 0, none⟩), .int .i64 (k : Int)] y fun e w' => e = .returned (.int .i64 ((((x.nd tn).hear g tn tx).k : Nat) : Int)) ∧ NDid y w' C.fb g C.Fx (x.deliver g k ⟨(tn : Int), tx⟩)) := fun y hy => by
            have h1 := netDeliver A base C.fb g x C.Fx (k : Int) HG.out HX.out y (HWY.out.low hy) HFb.out (HT4.out.c.net.low hy)
            rw [deliverR_at HXk.out] at h1
            exact h1
          have HPs : Hid (((x.nd tn).hear g tn tx).ps.length ≤ g.n) := hh.few
          clear hh hWd
          have HNd : Hid _ := deliver_ndG g x k tn tx
          have HBg : Hid _ := deliver_bagG g x k tn tx
          generalize x.deliver g k ⟨(tn : Int), tx⟩ = x2 at *
          go_wp2_with fail
          refine (show Calls _ _ _ _ _ from HDl.out _ (by first | exact (Below.refl _ _).drew | exact Below.refl _ _ | exact below_drewN (Below.refl _ _) _)).mono ?_
          rintro e w5 ⟨rfl, hd5⟩
          obtain ⟨⟨C5, hT5⟩, hb5, hr5⟩ := (HT4.out.low (by first | exact (Below.refl _ _).drew | exact Below.refl _ _ | exact below_drewN (Below.refl _ _) _)).net hd5
          have HT5 : Hid (TwoAt z (fun k => k = q2) w5 rb hb g x2 x.nd x.bag sd sn C5 M) := hT5
          have HBz5 : Hid (Below z w w5) := HBzY.out.trans ((Below.mono (B := Y.heap.size) (by first | exact (Below.refl _ _).drew | exact Below.refl _ _ | exact below_drewN (Below.refl _ _) _) HT4.out.le).trans hb5)
          have HW5 : Hid (Sl w5 A base) := hd5.sl (HWY.out.low (by first | exact (Below.refl _ _).drew | exact Below.refl _ _ | exact below_drewN (Below.refl _ _) _)) HFb.out
          have HU5 : Hid (w5.cell? ⟨q2, 0, none⟩ = some (.int .i64 (tn : Int)) ∧ w5.cell? ⟨q2, 1, none⟩ = some (.string tx)) := HBx4.out w5 (hr5 q2 rfl)
          have HWo : Hid _ := hwithout_any hb M.wa M.wcap x.bag k (by omega) w5 HT5.out.m.way
          clear hT5 hb5 hr5 hd5 u0 u1 c4
          go_wp2_with fail
          refine (show Calls _ _ _ _ _ from HWo.out).mono ?_
          rintro e w6 ⟨rfl, hl6⟩
          obtain ⟨⟨M6, hT6⟩, hb6, hr6⟩ := HT5.out.laid hl6
          have HT6 : Hid (TwoAt z (fun k => k = q2) w6 rb hb g x2 x.nd (x.bag.eraseIdx k) sd sn C5 M6) := hT6
          have HBz6 : Hid (Below z w w6) := HBz5.out.trans hb6
          have HW6 : Hid (Sl w6 A base) := HW5.out.above hz hb6
          have u0 := blk_cell (hr6 q2 rfl) HU5.out.1
          have u1 := blk_cell (hr6 q2 rfl) HU5.out.2
          clear hl6 hT6 hb6 hr6
          have h0 := HT6.out.m.c0
          have hmem := HT6.out.m.mem tn hton
          have htni : (tn : Int) < (g.n : Int) := by omega
          have HFH : Hid (∀ y, Below w6.heap.size w6 y → Calls Tryz.prog 59 #[.pointer (some ⟨M6.fb tn, 0, none⟩), .string tx] y fun e w' => ∃ v, e = .returned (.tuple #[v, .int .i64 (((x.nd tn).hear g tn tx).k : Int)]) ∧ Did y w' (M6.nb tn) g tn (M6.Fp tn) ((x.nd tn).hear g tn tx).s v ((x.nd tn).hear g tn tx).ps) := fun y hy => by
            have hmy := HT6.out.m.low hy
            exact faceHear A base (M6.fb tn) (M6.nb tn) g tn (x.nd tn) (M6.Fp tn) tx HG.out hton (HX.out.nd tn hton) (by unfold maxLen; omega) y (hmy.face tn hton) (HW6.out.low hy) (fun k hk => Nat.le_trans hz (HT6.out.mz k (Or.inr (Or.inr (Or.inr (Or.inr ⟨tn, hton, hk⟩)))))) (hmy.node tn hton)
          have HNp : Hid (¬ M6.Fp tn hb ∧ ¬ M6.Fp tn M6.gn ∧ ¬ M6.Fp tn q2) := ⟨fun h => (HT6.out.m.sep tn hton _ h).1 rfl, fun h => (HT6.out.m.sep tn hton _ h).2.1 rfl, fun h => (HT6.out.res _ rfl).2.2 (Or.inr (Or.inr (Or.inr (Or.inr ⟨tn, hton, h⟩))))⟩
          generalize (x.nd tn).hear g tn tx = S at *
          go_wp2_with fail
          go_region_held3 (fun y => y.cell? ⟨hb, 0, none⟩ = some (.slice (some ⟨M6.gn, 0, none⟩) g.n M6.ncap) ∧ y.cell? ⟨M6.gn, tn, none⟩ = some (.pointer (some ⟨M6.fb tn, 0, none⟩)) ∧ y.cell? ⟨q2, 0, none⟩ = some (.int .i64 (tn : Int)) ∧ y.cell? ⟨q2, 1, none⟩ = some (.string tx)) (first | (exact ⟨h0, hmem, u0, u1⟩) | (exact HK7.out) | go_keep)
            (first | (go_at_call 59; refine (show Calls _ _ _ _ _ from HFH.out _ (by first | exact (Below.refl _ _).drew | exact Below.refl _ _ | exact below_drewN (Below.refl _ _) _)).mono ?_; rintro e w7 ⟨lv, rfl, hd7⟩; obtain ⟨av, cv, hsh⟩ := rowShaped hd7.pks.own; subst hsh; have HD7 : Hid (Did w6.drew w7 (M6.nb tn) g tn (M6.Fp tn) S.s (.slice av S.ps.length cv) S.ps) := hd7; have HK7 : Hid (w7.cell? ⟨hb, 0, none⟩ = some (.slice (some ⟨M6.gn, 0, none⟩) g.n M6.ncap) ∧ w7.cell? ⟨M6.gn, tn, none⟩ = some (.pointer (some ⟨M6.fb tn, 0, none⟩)) ∧ w7.cell? ⟨q2, 0, none⟩ = some (.int .i64 (tn : Int)) ∧ w7.cell? ⟨q2, 1, none⟩ = some (.string tx)) := ⟨hd7.rest.cell h0 HNp.out.1, hd7.rest.cell hmem HNp.out.2.1, hd7.rest.cell u0 HNp.out.2.2, hd7.rest.cell u1 HNp.out.2.2⟩; clear hd7))
          obtain ⟨⟨M7, hT7, hwa7⟩, hb7, _⟩ := (HT6.out.low (Below.refl _ _).drew).hand hton HD7.out
          have HT7 : Hid (TwoAt z (fun k => k = q2) w7 rb hb g x2 (upd x.nd tn S.s) (x.bag.eraseIdx k) sd sn C5 M7) := hT7
          have HBz7 : Hid (Below z w w7) := HBz6.out.trans ((Below.refl _ _).drew.trans hb7)
          have HNe : Hid (∀ k, (Value.slice av S.ps.length cv).ownBlock = some k → k ≠ hb ∧ ¬ onB M7.wa k) := fun k hk => by
            have h2 : w6.heap.size ≤ k := HD7.out.pks.block k hk
            refine ⟨fun e => ?_, fun hc => ?_⟩
            · have := HT6.out.m.lt (Or.inl e)
              omega
            · rw [hwa7] at hc
              have := HT6.out.m.lt (Or.inr (Or.inr (Or.inl hc)))
              omega
          have HLy : Hid _ := hlay_any hb M7.wa M7.wcap (x.bag.eraseIdx k) S.ps _ _ w7 HT7.out.m.way HD7.out.pks HNe.out (by
            have h1 := List.length_eraseIdx_le x.bag k
            have h2 := HPs.out
            omega)
          clear hT7 hb7 hwa7 u0 u1 h0 hmem
          rename_i hHeld
          clear hHeld
          go_wp2_with fail
          refine (show Calls _ _ _ _ _ from HLy.out).mono ?_
          rintro e w8 ⟨rfl, hl8⟩
          obtain ⟨⟨M8, hT8⟩, hb8, _⟩ := HT7.out.laid hl8
          have HE : Hid (JRan z w8 rb hb g sd sn (m + 1) ∧ Below z w w8) := by
            refine ⟨⟨x2, ?_, HWd.out⟩, HBz7.out.trans hb8⟩
            rw [HNd.out, HBg.out]
            exact hT8.none
          clear hl8 hT8 hb8
          go_wp2_with fail
          go_ret
          exact ⟨rfl, HE.out.1, HE.out.2⟩
        · have g2 : (j == 2) = false := by simp [j2]
          by_cases j3 : j = 3
          · subst j3
            have HWd : Hid _ := HWl.out.copy (List.mem_of_getElem? HXk.out)
            have HDl : Hid (∀ y, Below Y.heap.size Y y → Calls Tryz.prog 60 #[.pointer (some ⟨C.fb, 0, none⟩), .int .i64 (k : Int)] y fun e w' => e = .returned (.int .i64 0) ∧ NDid y w' C.fb g C.Fx { x with bag := x.bag ++ [(⟨(tn : Int), tx⟩ : Pk)] }) := fun y hy => by
              have h1 := netCopy A base C.fb g x C.Fx (k : Int) HG.out HX.out y (HWY.out.low hy) HFb.out (HT4.out.c.net.low hy)
              rw [copyR_at HXk.out] at h1
              exact h1
            go_wp2_with fail
            refine (show Calls _ _ _ _ _ from HDl.out _ (by first | exact (Below.refl _ _).drew | exact Below.refl _ _ | exact below_drewN (Below.refl _ _) _)).mono ?_
            rintro e w5 ⟨rfl, hd5⟩
            obtain ⟨⟨C5, hT5⟩, hb5, hr5⟩ := (HT4.out.low (by first | exact (Below.refl _ _).drew | exact Below.refl _ _ | exact below_drewN (Below.refl _ _) _)).net hd5
            have HT5 : Hid (TwoAt z (fun k => k = q2) w5 rb hb g { x with bag := x.bag ++ [(⟨(tn : Int), tx⟩ : Pk)] } x.nd x.bag sd sn C5 M) := hT5
            have HBz5 : Hid (Below z w w5) := HBzY.out.trans ((Below.mono (B := Y.heap.size) (by first | exact (Below.refl _ _).drew | exact Below.refl _ _ | exact below_drewN (Below.refl _ _) _) HT4.out.le).trans hb5)
            obtain ⟨u5, u6⟩ := HBx4.out w5 (hr5 q2 rfl)
            have HT6 : Hid (TwoAt z (fun k => k = q2) (w5.alloc (.cells #[.int .i64 (tn : Int), .string tx] 109)) rb hb g { x with bag := x.bag ++ [(⟨(tn : Int), tx⟩ : Pk)] } x.nd x.bag sd sn C5 M) := hT5.low (below1 _ _)
            have HBz6 : Hid (Below z w (w5.alloc (.cells #[.int .i64 (tn : Int), .string tx] 109))) := HBz5.out.trans ((below1 _ _).mono hT5.le)
            have HPk1 : Hid (Pks (w5.alloc (.cells #[.int .i64 (tn : Int), .string tx] 109)) w5.heap.size (.slice (some ⟨w5.heap.size, 0, none⟩) 1 1) [(⟨(tn : Int), tx⟩ : Pk)]) := ⟨rfl, Or.inr ⟨w5.heap.size, 1, _, rfl, Nat.le_refl _, heap_alloc_new _ _, Nat.le_refl _, by unfold maxLen; omega, rfl, rfl⟩⟩
            have HNe : Hid (∀ k, (Value.slice (some ⟨w5.heap.size, 0, none⟩) 1 1).ownBlock = some k → k ≠ hb ∧ ¬ onB M.wa k) := fun k hk => by
              have h2 : w5.heap.size = k := by simpa [Value.ownBlock] using hk
              refine ⟨fun e => ?_, fun hc => ?_⟩
              · have := HT5.out.m.lt (Or.inl e)
                omega
              · have := HT5.out.m.lt (Or.inr (Or.inr (Or.inl hc)))
                omega
            have HLy : Hid _ := hlay_any hb M.wa M.wcap x.bag [(⟨(tn : Int), tx⟩ : Pk)] _ _ _ HT6.out.m.way HPk1.out HNe.out (by simp; omega)
            clear hT5 hb5 hr5 hd5 u0 u1 c4
            go_wp2_with fail
            refine (show Calls _ _ _ _ _ from HLy.out).mono ?_
            rintro e w6 ⟨rfl, hl6⟩
            obtain ⟨⟨M6, hT6⟩, hb6, _⟩ := HT6.out.laid hl6
            have HE : Hid (JRan z w6 rb hb g sd sn (m + 1) ∧ Below z w w6) := ⟨⟨_, hT6.none, HWd.out⟩, HBz6.out.trans hb6⟩
            clear hl6 hT6 hb6
            go_wp2_with fail
            go_ret
            exact ⟨rfl, HE.out.1, HE.out.2⟩
          · have g3 : (j == 3) = false := by simp [j3]
            have HWd : Hid _ := HWl.out.drop k
            have HDl : Hid (∀ y, Below Y.heap.size Y y → Calls Tryz.prog 50 #[.pointer (some ⟨C.fb, 0, none⟩), .int .i64 (k : Int)] y fun e w' => e = .returned (.int .i64 0) ∧ NDid y w' C.fb g C.Fx { x with bag := x.bag.eraseIdx k }) := fun y hy => by
              have h1 := netDrop A base C.fb g x C.Fx (k : Int) HG.out HX.out y (HWY.out.low hy) HFb.out (HT4.out.c.net.low hy)
              rw [dropR_at HXk.out] at h1
              exact h1
            go_wp2_with fail
            refine (show Calls _ _ _ _ _ from HDl.out _ (by first | exact (Below.refl _ _).drew | exact Below.refl _ _ | exact below_drewN (Below.refl _ _) _)).mono ?_
            rintro e w5 ⟨rfl, hd5⟩
            obtain ⟨⟨C5, hT5⟩, hb5, hr5⟩ := (HT4.out.low (by first | exact (Below.refl _ _).drew | exact Below.refl _ _ | exact below_drewN (Below.refl _ _) _)).net hd5
            have HT5 : Hid (TwoAt z (fun k => k = q2) w5 rb hb g { x with bag := x.bag.eraseIdx k } x.nd x.bag sd sn C5 M) := hT5
            have HBz5 : Hid (Below z w w5) := HBzY.out.trans ((Below.mono (B := Y.heap.size) (by first | exact (Below.refl _ _).drew | exact Below.refl _ _ | exact below_drewN (Below.refl _ _) _) HT4.out.le).trans hb5)
            have HWo : Hid _ := hwithout_any hb M.wa M.wcap x.bag k (by omega) w5 HT5.out.m.way
            clear hT5 hb5 hr5 hd5 u0 u1 c4
            go_wp2_with fail
            refine (show Calls _ _ _ _ _ from HWo.out).mono ?_
            rintro e w6 ⟨rfl, hl6⟩
            obtain ⟨⟨M6, hT6⟩, hb6, _⟩ := HT5.out.laid hl6
            have HE : Hid (JRan z w6 rb hb g sd sn (m + 1) ∧ Below z w w6) := ⟨⟨_, hT6.none, HWd.out⟩, HBz5.out.trans hb6⟩
            clear hl6 hT6 hb6
            go_wp2_with fail
            go_ret
            exact ⟨rfl, HE.out.1, HE.out.2⟩
end Go.Proofs.YtabecbjfamphbaaGreatDoor
