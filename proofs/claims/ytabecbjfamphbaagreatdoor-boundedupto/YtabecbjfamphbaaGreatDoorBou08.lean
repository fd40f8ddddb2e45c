/-
  Texts that the proofs of this seat share, joined: Wc.
-/
import Derived.Test.YtabecbjfamphbaaGreatDoorBou06
import Derived.Test.YtabecbjfamphbaaGreatDoorBou04
import Derived.Test.YtabecbjfamphbaaGreatDoorBou07
import Derived.Deep.Cut
import Derived.Deep.CutRange
/- hearsaykeep: forged. -/
namespace Go.Proofs.YtabecbjfamphbaaGreatDoor
open Go.RowKit Go.Stop Go.Extern

/-- What comes of a text that nobody sent. -/
def forgeN (g : Gr) (x : MNet) (p : Nat) (t : ByteArray) : MNet := MNet.deliver g { x with bag := x.bag ++ [(⟨(p : Int), t⟩ : Pk)] } x.bag.length ⟨(p : Int), t⟩
theorem forge_net {g : Gr} {x : MNet} {p : Nat} {t : ByteArray} : MNet.deliverR g { x with bag := x.bag ++ [(⟨(p : Int), t⟩ : Pk)] } (x.bag.length : Int) = ⟨0, ((x.nd p).hear g p t).k, forgeN g x p t⟩ := by
  have hat : MNet.at { x with bag := x.bag ++ [(⟨(p : Int), t⟩ : Pk)] } (x.bag.length : Int) = some ⟨(p : Int), t⟩ := by
    unfold MNet.at
    rw [if_pos (by omega)]
    simp
  unfold MNet.deliverR
  rw [hat]
  rfl
theorem forge_eq (g : Gr) (x : MNet) (p : Nat) (t : ByteArray) : forgeN g x p t = if ((x.nd p).hear g p t).k = 0 then { x.put p ((x.nd p).hear g p t).s with bag := x.bag ++ ((x.nd p).hear g p t).ps } else MNet.refuse { x.put p ((x.nd p).hear g p t).s with bag := x.bag ++ ((x.nd p).hear g p t).ps } p := by
  have he : (x.bag ++ [(⟨(p : Int), t⟩ : Pk)]).eraseIdx x.bag.length = x.bag := by
    rw [List.eraseIdx_append_of_length_le (Nat.le_refl _)]
    simp
  unfold forgeN MNet.deliver
  show (let r := (x.nd ((p : Int).toNat)).hear g ((p : Int).toNat) t; let z : MNet := { x.put ((p : Int).toNat) r.s with bag := (x.bag ++ [(⟨(p : Int), t⟩ : Pk)]).eraseIdx x.bag.length ++ r.ps }; if r.k = 0 then z else z.refuse ((p : Int).toNat)) = _
  rw [Int.toNat_natCast]
  simp only
  rw [he]
theorem forge_bag (g : Gr) (x : MNet) (p : Nat) (t : ByteArray) : (forgeN g x p t).bag = x.bag ++ ((x.nd p).hear g p t).ps := by
  rw [forge_eq]
  split <;> rfl
theorem forge_nd (g : Gr) (x : MNet) (p : Nat) (t : ByteArray) : (forgeN g x p t).nd p = ((x.nd p).hear g p t).s := by
  rw [forge_eq]
  split
  · exact if_pos rfl
  · exact if_pos rfl
theorem forge_ref (g : Gr) (x : MNet) (p : Nat) (t : ByteArray) : (forgeN g x p t).ref p = if ((x.nd p).hear g p t).k = 0 then x.ref p else x.ref p + 1 := by
  rw [forge_eq]
  split
  · rfl
  · exact if_pos rfl
/-- Decode, whatever the text: a frame's seven cells, a place, a number. -/
theorem dec_any (a0 a1 : Addr) (n : Nat) (W B L : Int) (s : ByteArray) (hG : okG n W B L = true) (hs : s.size ≤ maxLen) (x : World) (hx : Sent x a0 a1) (hT : ErrT x) :
    Calls Tryz.prog 85 #[.agg #[.int .i64 (n : Int), .int .i64 W, .int .i64 B, .int .i64 L], .string s] x
      fun e w' => (∃ (K F O S Lw : Int) (ad : Option Addr) (len cap : Nat) (body : ByteArray) (p : Int), e = .returned (.tuple #[.agg #[.int .i64 K, .int .i64 F, .int .i64 O, .int .i64 S, .int .i64 Lw, .slice ad len cap, .string body], .int .i64 p, .int .i64 (if rAll n W B L s = none then 0 else 5)])) ∧ Below x.heap.size x w' := by
  refine (hDecode_yes a0 a1 n W B L s x hx hT hG hs).mono ?_
  rintro e w' ⟨⟨fv, rfl, hn, hy⟩, hbel⟩
  refine ⟨?_, hbel⟩
  by_cases hr : rAll n W B L s = none
  · rcases hy hr with ⟨_, ⟨g, _, rfl, _⟩⟩ | ⟨_, ⟨g, _, rfl, _⟩⟩
    · exact ⟨_, _, _, _, _, _, _, _, _, _, rfl⟩
    · exact ⟨_, _, _, _, _, _, _, _, _, _, rfl⟩
  · rw [hn hr]
    exact ⟨_, _, _, _, _, _, _, _, _, _, rfl⟩
set_option maxRecDepth 100000 in
set_option maxHeartbeats 4000000 in
theorem forged_any (A : Nat → Addr) (base z rb : Nat) (g : Gr) (x : MNet) (sd : List Sd) (sn : List Sn) (m : Nat) (o : Stp) (ho : o.Ok) (hg : g.Ok) (hm : m + 1 ≤ 10000000) (hWl : Wld g x m) (w : World) (hf : o.FOk w) (hw : Sl w A base) (hT : ErrT w) (hz : base ≤ z) (h : CircZ z w rb g x sd sn) :
    Calls Tryz.prog 51 #[.pointer (some ⟨rb, 0, none⟩), o.val] w fun e w' => e = .returned (.bool true) ∧ (∃ x', CircZ z w' rb g x' sd sn ∧ Wld g x' (m + 1)) ∧ Below z w w' := by
  obtain ⟨K, a, b, v, s, f0, f1, f2, f3, f4, fa, fl, fc, fb⟩ := o
  obtain ⟨hK, ha, hb, hv⟩ := ho
  simp only at hK ha hb hv
  obtain ⟨i0, i1, i2, i3, i4, ⟨vs, hvs, hvi⟩, hsz, hbz⟩ := hf
  simp only at i0 i1 i2 i3 i4 hvs hvi hsz hbz
  obtain ⟨C, hCi, hCz⟩ := h.how
  have HC : Hid (Circ w rb g x sd sn C) := hCi
  have HCz : Hid (∀ k, C.foot rb sd sn k → z ≤ k) := hCz
  have HW : Hid (Sl w A base) := hw
  have HT : Hid (ErrT w) := hT
  have HWl : Hid (Wld g x m) := hWl
  have HX : Hid (x.Ok g) := hWl.ok (by omega)
  have hn := hg.n
  have HGo : Hid (okG g.n g.W g.B g.L = true) := hg.okG
  have hpb := pk_bd a (g.n : Int) (by omega)
  have hjb := pk_bd b 4 (by omega)
  have HPk : Hid _ := fun y => pick_any a (g.n : Int) y ha (by omega) (by omega)
  have HPb : Hid _ := fun y => pick_any b 4 y hb (by omega) (by omega)
  have HUp : Hid _ := fun y => upTo_any s 100 y
  have HUs : Hid ((upT s 100).size ≤ 100) := upT_size s 100
  have HFr : Hid (∀ y, Below w.heap.size w y → Calls Tryz.prog 84 #[.agg #[.int .i64 (g.n : Int), .int .i64 g.W, .int .i64 g.B, .int .i64 g.L], .agg #[.int .i64 f0, .int .i64 f1, .int .i64 f2, .int .i64 f3, .int .i64 f4, .slice fa fl fc, .string fb]] y fun e w' => (∃ K' F' O' S' Lw' ad' cap' vs' body', e = .returned (.agg #[.int .i64 K', .int .i64 F', .int .i64 O', .int .i64 S', .int .i64 Lw', .slice ad' g.n cap', .string body']) ∧ Fits g.n g.W g.B g.L K' F' O' S' Lw' vs' body' ∧ Ints w' ad' g.n vs') ∧ Below y.heap.size y w') := fun y hy => by
    refine (frame_any g.n g.W g.B g.L f0 f1 f2 f3 f4 fa fl fc fb vs y hg.okG (hvs.below hy) i0 i1 i2 i3 i4 hvi).mono ?_
    rintro e w' ⟨⟨K', F', O', S', Lw', ad', cap', vs', body', h1, h2, h3, _⟩, hb⟩
    exact ⟨⟨K', F', O', S', Lw', ad', cap', vs', body', h1, h2, h3⟩, hb⟩
  have HEn : Hid (∀ y K' F' O' S' Lw' ad' cap' vs' body', Below w.heap.size w y → Fits g.n g.W g.B g.L K' F' O' S' Lw' vs' body' → Ints y ad' g.n vs' → Calls Tryz.prog 83 #[.agg #[.int .i64 (g.n : Int), .int .i64 g.W, .int .i64 g.B, .int .i64 g.L], .agg #[.int .i64 K', .int .i64 F', .int .i64 O', .int .i64 S', .int .i64 Lw', .slice ad' g.n cap', .string body']] y fun e w' => (∃ t, e = .returned (.tuple #[.string t, .int .i64 0]) ∧ t.size ≤ 100) ∧ Below y.heap.size y w') := fun y K' F' O' S' Lw' ad' cap' vs' body' hy hfi hin => by
    refine (enc_right (A 1) (A 5) g.n g.W g.B g.L K' F' O' S' Lw' vs' body' hg.okG hfi ad' cap' y (hw.low hy).sent hin).mono ?_
    rintro e w' ⟨rfl, hb⟩
    exact ⟨⟨_, rfl, (frame_size hg.okG hfi).2⟩, hb⟩
  generalize pk a (g.n : Int) = pp at *
  obtain ⟨p, rfl⟩ : ∃ p : Nat, pp = p := ⟨pp.toNat, by omega⟩
  have hp : p < g.n := by omega
  generalize pk b 4 = jb at *
  generalize upT s 100 = us at *
  have c0 := hCi.c0
  have c1 := hCi.c1
  have c2 := hCi.c2
  have c3 := hCi.c3
  unfold Stp.val
  clear hw hCi hCz h hT hWl hvs hvi i0 i1 i2 i3 i4 ha hb hv hK hsz hbz
  go_enter Tryz.func51, Tryz.ntmps51
  have HBx : Hid (∀ (y : World), Below (w.alloc (.cells #[.int .i64 K, .int .i64 a, .int .i64 b, .int .i64 v, .string s, .int .i64 f0, .int .i64 f1, .int .i64 f2, .int .i64 f3, .int .i64 f4, .slice fa fl fc, .string fb] 47)).heap.size (w.alloc (.cells #[.int .i64 K, .int .i64 a, .int .i64 b, .int .i64 v, .string s, .int .i64 f0, .int .i64 f1, .int .i64 f2, .int .i64 f3, .int .i64 f4, .slice fa fl fc, .string fb] 47)) y → y.cell? ⟨w.heap.size, 0, none⟩ = some (.int .i64 K) ∧ y.cell? ⟨w.heap.size, 1, none⟩ = some (.int .i64 a) ∧ y.cell? ⟨w.heap.size, 2, none⟩ = some (.int .i64 b) ∧ y.cell? ⟨w.heap.size, 3, none⟩ = some (.int .i64 v) ∧ y.cell? ⟨w.heap.size, 4, none⟩ = some (.string s) ∧ y.cell? ⟨w.heap.size, 5, none⟩ = some (.int .i64 f0) ∧ y.cell? ⟨w.heap.size, 6, none⟩ = some (.int .i64 f1) ∧ y.cell? ⟨w.heap.size, 7, none⟩ = some (.int .i64 f2) ∧ y.cell? ⟨w.heap.size, 8, none⟩ = some (.int .i64 f3) ∧ y.cell? ⟨w.heap.size, 9, none⟩ = some (.int .i64 f4) ∧ y.cell? ⟨w.heap.size, 10, none⟩ = some (.slice fa fl fc) ∧ y.cell? ⟨w.heap.size, 11, none⟩ = some (.string fb)) := fun y hy => by
    have hz : w.heap.size < (w.alloc (.cells #[.int .i64 K, .int .i64 a, .int .i64 b, .int .i64 v, .string s, .int .i64 f0, .int .i64 f1, .int .i64 f2, .int .i64 f3, .int .i64 f4, .slice fa fl fc, .string fb] 47)).heap.size := by simp
    have e : ∀ i, y.cell? ⟨w.heap.size, i, none⟩ = #[Value.int .i64 K, .int .i64 a, .int .i64 b, .int .i64 v, .string s, .int .i64 f0, .int .i64 f1, .int .i64 f2, .int .i64 f3, .int .i64 f4, .slice fa fl fc, .string fb][i]? := fun i => (hy.cell (p := ⟨w.heap.size, i, none⟩) hz).trans (cell_of_row _ _ i _ _ (0, 0) (heap_alloc_new _ _))
    exact ⟨e 0, e 1, e 2, e 3, e 4, e 5, e 6, e 7, e 8, e 9, e 10, e 11⟩
  have HB0 : Hid (Below w.heap.size w (w.alloc (.cells #[.int .i64 K, .int .i64 a, .int .i64 b, .int .i64 v, .string s, .int .i64 f0, .int .i64 f1, .int .i64 f2, .int .i64 f3, .int .i64 f4, .slice fa fl fc, .string fb] 47))) := below1 w _
  have c0' := (HB0.out.cell (p := ⟨rb, 0, none⟩) (lt_of_cell c0)).trans c0
  obtain ⟨b0, b1, b2, b3, b4, b5, b6, b7, b8, b9, b10, b11⟩ := HBx.out _ (Below.refl _ _)
  go_wp2_with fail
  generalize w.alloc (.cells #[.int .i64 K, .int .i64 a, .int .i64 b, .int .i64 v, .string s, .int .i64 f0, .int .i64 f1, .int .i64 f2, .int .i64 f3, .int .i64 f4, .slice fa fl fc, .string fb] 47) = X at *
  go_quiet (first | (go_at_call 21; exact Calls.quiet_of_same (HPk.out _)))
  have hq5 : X.cell? ⟨rb, 0, none⟩ = some (.int .i64 (g.n : Int)) ∧ X.cell? ⟨rb, 1, none⟩ = some (.int .i64 g.W) ∧ X.cell? ⟨rb, 2, none⟩ = some (.int .i64 g.B) ∧ X.cell? ⟨rb, 3, none⟩ = some (.int .i64 g.L) := ⟨c0', (HB0.out.cell (p := ⟨rb, 1, none⟩) (lt_of_cell c1)).trans c1, (HB0.out.cell (p := ⟨rb, 2, none⟩) (lt_of_cell c2)).trans c2, (HB0.out.cell (p := ⟨rb, 3, none⟩) (lt_of_cell c3)).trans c3⟩
  have HQ5 : Hid _ := hq5
  have HRb : Hid (rb < X.heap.size ∧ w.heap.size < X.heap.size) := ⟨lt_of_cell hq5.1, lt_of_cell b0⟩
  clear hq5 c0 c1 c2 c3
  go_upto_if 39 with (first | (go_at_call 49; refine (show Calls _ _ _ _ _ from HUp.out _).mono ?_; rintro e w' ⟨rfl, rfl⟩) | (go_at_call 21; refine (show Calls _ _ _ _ _ from HPb.out _).mono ?_; rintro e w' ⟨rfl, rfl⟩))
  go_cut [6] from 25 (fun s6 wc => ∃ t : ByteArray, s6 = .string t ∧ t.size ≤ 100 ∧ Below X.heap.size X wc)
  case first =>
    by_cases hj : 0 < jb
    · obtain ⟨e0, e1, e2, e3⟩ := HQ5.out
      have HKp : Hid (∀ y, Below X.heap.size X y → y.cell? ⟨rb, 0, none⟩ = some (.int .i64 (g.n : Int)) ∧ y.cell? ⟨rb, 1, none⟩ = some (.int .i64 g.W) ∧ y.cell? ⟨rb, 2, none⟩ = some (.int .i64 g.B) ∧ y.cell? ⟨rb, 3, none⟩ = some (.int .i64 g.L) ∧ y.cell? ⟨w.heap.size, 5, none⟩ = some (.int .i64 f0) ∧ y.cell? ⟨w.heap.size, 6, none⟩ = some (.int .i64 f1) ∧ y.cell? ⟨w.heap.size, 7, none⟩ = some (.int .i64 f2) ∧ y.cell? ⟨w.heap.size, 8, none⟩ = some (.int .i64 f3) ∧ y.cell? ⟨w.heap.size, 9, none⟩ = some (.int .i64 f4) ∧ y.cell? ⟨w.heap.size, 10, none⟩ = some (.slice fa fl fc) ∧ y.cell? ⟨w.heap.size, 11, none⟩ = some (.string fb)) := fun y hy => by
        obtain ⟨r1, r2⟩ := HRb.out
        exact ⟨(hy.cell (p := ⟨rb, 0, none⟩) r1).trans e0, (hy.cell (p := ⟨rb, 1, none⟩) r1).trans e1, (hy.cell (p := ⟨rb, 2, none⟩) r1).trans e2, (hy.cell (p := ⟨rb, 3, none⟩) r1).trans e3, (hy.cell (p := ⟨w.heap.size, 5, none⟩) r2).trans b5, (hy.cell (p := ⟨w.heap.size, 6, none⟩) r2).trans b6, (hy.cell (p := ⟨w.heap.size, 7, none⟩) r2).trans b7, (hy.cell (p := ⟨w.heap.size, 8, none⟩) r2).trans b8, (hy.cell (p := ⟨w.heap.size, 9, none⟩) r2).trans b9, (hy.cell (p := ⟨w.heap.size, 10, none⟩) r2).trans b10, (hy.cell (p := ⟨w.heap.size, 11, none⟩) r2).trans b11⟩
      go_wp2_with fail
      go_region_held3 (fun y => y.cell? ⟨rb, 0, none⟩ = some (.int .i64 (g.n : Int)) ∧ y.cell? ⟨rb, 1, none⟩ = some (.int .i64 g.W) ∧ y.cell? ⟨rb, 2, none⟩ = some (.int .i64 g.B) ∧ y.cell? ⟨rb, 3, none⟩ = some (.int .i64 g.L) ∧ y.cell? ⟨w.heap.size, 5, none⟩ = some (.int .i64 f0) ∧ y.cell? ⟨w.heap.size, 6, none⟩ = some (.int .i64 f1) ∧ y.cell? ⟨w.heap.size, 7, none⟩ = some (.int .i64 f2) ∧ y.cell? ⟨w.heap.size, 8, none⟩ = some (.int .i64 f3) ∧ y.cell? ⟨w.heap.size, 9, none⟩ = some (.int .i64 f4) ∧ y.cell? ⟨w.heap.size, 10, none⟩ = some (.slice fa fl fc) ∧ y.cell? ⟨w.heap.size, 11, none⟩ = some (.string fb)) (first | (exact ⟨e0, e1, e2, e3, b5, b6, b7, b8, b9, b10, b11⟩) | (exact HKe.out) | (exact HKf.out) | go_keep)
        (first | (go_at_call 84; refine (show Calls _ _ _ _ _ from HFr.out _ (bthen HB0.out (by first | exact below_drewN (Below.refl _ _) _ | exact (below_drewN (Below.refl _ _) _).drew | exact (Below.refl _ _).drew | exact Below.refl _ _))).mono ?_; rintro e wf ⟨⟨K', F', O', S', Lw', ad', cap', vs', body', rfl, hfit, hin⟩, hbf⟩; have HBf : Hid (Below X.heap.size X wf) := bthen (by first | exact below_drewN (Below.refl _ _) _ | exact (below_drewN (Below.refl _ _) _).drew | exact (Below.refl _ _).drew | exact Below.refl _ _) hbf; have HFi : Hid _ := hfit; have HIn : Hid _ := hin; have HKf : Hid _ := HKp.out wf HBf.out; clear hfit hin hbf) | (go_at_call 83; refine (show Calls _ _ _ _ _ from HEn.out _ _ _ _ _ _ _ _ _ _ (bthen HB0.out HBf.out) HFi.out HIn.out).mono ?_; rintro e we ⟨⟨t, rfl, ht⟩, hbe⟩; have HBe : Hid (Below X.heap.size X we) := bthen HBf.out hbe; have HTe : Hid _ := ht; have HKe : Hid _ := HKp.out we HBe.out; clear ht hbe))
      go_wp2_with fail
      go_meet
      case rel => exact ⟨t, rfl, HTe.out, by first | exact HBe.out | exact HBe.out.drew | exact below_drewN HBe.out _⟩
    · go_wp2_with fail
      go_meet
      case rel => exact ⟨us, rfl, HUs.out, by first | exact Below.refl _ _ | exact (Below.refl _ _).drew | exact below_drewN (Below.refl _ _) _⟩
  case rest =>
    obtain ⟨t, rfl, ht100, hbc⟩ := hcut
    have HBc : Hid (Below w.heap.size w wc) := bthen HB0.out hbc
    have HCc : Hid (Circ wc rb g x sd sn C) := HC.out.low HBc.out
    have d0 := HCc.out.c0
    have d1 := HCc.out.c1
    have d2 := HCc.out.c2
    have d3 := HCc.out.c3
    have HDe : Hid _ := dec_any (A 1) (A 5) g.n g.W g.B g.L t HGo.out (by unfold maxLen; omega) wc (HW.out.low HBc.out).sent (HT.out.below HBc.out)
    have HEv : Hid (((x.nd p).hear g p t).k = 5 ↔ rAll g.n g.W g.B g.L t ≠ none) := (HWl.out.forge hg hp t).1.five
    have HHr : Hid (HearOk g p (x.nd p) t ((x.nd p).hear g p t)) := (HWl.out.forge hg hp t).1
    have HWf : Hid (Wld g (forgeN g x p t) (m + 1)) := (HWl.out.forge hg hp t).2
    clear hbc b0 b1 b2 b3 b4 b5 b6 b7 b8 b9 b10 b11 c0' hjb
    have hev : (if rAll g.n g.W g.B g.L t = none then (0 : Int) else 5) = if ((x.nd p).hear g p t).k = 5 then 5 else 0 := by
      by_cases h1 : rAll g.n g.W g.B g.L t = none
      · rw [if_pos h1, if_neg (fun h => (HEv.out.1 h) h1)]
      · rw [if_neg h1, if_pos (HEv.out.2 h1)]
    rw [hev] at HDe
    have HE2 : Hid ((((x.nd p).hear g p t).k = 5 → (if ((x.nd p).hear g p t).k = 5 then (5 : Int) else 0) = 5) ∧ (((x.nd p).hear g p t).k ≠ 5 → (if ((x.nd p).hear g p t).k = 5 then (5 : Int) else 0) = 0)) := ⟨fun h => if_pos h, fun h => if_neg h⟩
    clear hev
    generalize (if ((x.nd p).hear g p t).k = 5 then (5 : Int) else 0) = ev at *
    have HF1 : Hid ((forgeN g x p t).bag.length = x.bag.length + ((x.nd p).hear g p t).ps.length) := by
      show _ = _
      rw [forge_bag, List.length_append]
    have HF2 : Hid ((forgeN g x p t).nd p = ((x.nd p).hear g p t).s) := forge_nd g x p t
    have HF3 : Hid ((forgeN g x p t).ref p = if ((x.nd p).hear g p t).k = 0 then x.ref p else x.ref p + 1) := forge_ref g x p t
    have HNet : Hid (MNet.deliverR g { x with bag := x.bag ++ [(⟨(p : Int), t⟩ : Pk)] } (x.bag.length : Int) = ⟨0, ((x.nd p).hear g p t).k, forgeN g x p t⟩) := forge_net
    generalize (x.nd p).hear g p t = R at *
    generalize forgeN g x p t = x2 at *
    go_wp2_with fail
    refine (show Calls _ _ _ _ _ from HDe.out).mono ?_
    rintro e w1 ⟨⟨K', F', O', S', L', ad', len', cap', body', pl, rfl⟩, hb1⟩
    have HB1 : Hid (Below w.heap.size w w1) := bthen HBc.out hb1
    have HB2 : Hid (Below w.heap.size w (w1.alloc (.cells #[.int .i64 K', .int .i64 F', .int .i64 O', .int .i64 S', .int .i64 L', .slice ad' len' cap', .string body'] 45))) := bthen HB1.out (below1 _ _)
    clear hb1 d0 d1 d2 d3 HDe
    go_wp2_with fail
    generalize w1.alloc (.cells #[.int .i64 K', .int .i64 F', .int .i64 O', .int .i64 S', .int .i64 L', .slice ad' len' cap', .string body'] 45) = Y at *
    have HCy : Hid (Circ Y rb g x sd sn C) := HC.out.low HB2.out
    have HWy : Hid (Sl Y A base) := HW.out.low HB2.out
    refine (heard_any A base z rb g x sd sn p hg HX.out hp Y HWy.out ⟨C, HCy.out, HCz.out⟩).mono ?_
    rintro e w2 ⟨⟨k1, rfl, hk1, hr1⟩, hb2⟩
    have HB3 : Hid (Below w.heap.size w w2) := bthen HB2.out hb2
    have HR1 : Hid (RowI w2 k1 (cnts g.n (x.nd p).hs)) := hr1
    have HK1 : Hid (w.heap.size ≤ k1 ∧ k1 < w2.heap.size) := ⟨Nat.le_trans HB2.out.size hk1, RowI.lt hr1⟩
    have HC2 : Hid (Circ w2 rb g x sd sn C) := HC.out.low HB3.out
    have HW2 : Hid (Sl w2 A base) := HW.out.low HB3.out
    have e4 := HC2.out.c4
    have HRf : Hid _ := netRefused A base C.fb g x C.Fx p w2 HW2.out HC2.out.net
    rw [ref_net hp] at HRf
    clear hb2 hr1 hk1
    go_wp2_with fail
    refine (show Calls _ _ _ _ _ from HRf.out).mono ?_
    rintro e w3 ⟨rfl, hb3⟩
    have HB4 : Hid (Below w.heap.size w w3) := bthen HB3.out hb3
    have HB23 : Hid (Below w2.heap.size w2 w3) := hb3
    have HC3 : Hid (Circ w3 rb g x sd sn C) := HC.out.low HB4.out
    have HW3 : Hid (Sl w3 A base) := HW.out.low HB4.out
    clear hb3 e4 HRf
    have e4 := HC3.out.c4
    go_wp2_with fail
    refine (netLeft C.fb g x C.Fx w3 HC3.out.net).mono ?_
    rintro e w4 ⟨rfl, hw4⟩
    subst hw4
    have HZw : Hid (z ≤ w.heap.size) := (CircZ.mk ⟨C, HC.out, HCz.out⟩ : CircZ z w rb g x sd sn).le
    have HFl : Hid (∀ k, C.foot rb sd sn k → k < w.heap.size) := fun k hk => HC.out.lt hk
    have HFb : Hid (∀ k, C.Fx k → base ≤ k) := fun k hk => Nat.le_trans hz (HCz.out k (Or.inr (Or.inl hk)))
    have HSd : Hid _ := netSend A base C.fb g x C.Fx p t HX.out w4 HW3.out HFb.out HC3.out.net
    rw [send_net hp ht100] at HSd
    go_wp2_with fail
    refine (show Calls _ _ _ _ _ from HSd.out).mono ?_
    rintro e w6 ⟨rfl, hd6⟩
    have HD6 : Hid (NDid w4 w6 C.fb g C.Fx { x with bag := x.bag ++ [(⟨(p : Int), t⟩ : Pk)] }) := hd6
    obtain ⟨C6, hC6, hf6⟩ := HC3.out.did hd6
    have HC6 : Hid (Circ w6 rb g { x with bag := x.bag ++ [(⟨(p : Int), t⟩ : Pk)] } sd sn C6) := hC6
    have HF6 : Hid _ := hf6
    have HX1 : Hid (MNet.Ok g { x with bag := x.bag ++ [(⟨(p : Int), t⟩ : Pk)] }) := ⟨HX.out.nd, fun u hu => by
      rcases List.mem_append.1 hu with h | h
      · exact HX.out.bag u h
      · rw [List.mem_singleton] at h
        subst h
        exact ⟨⟨p, rfl, hp⟩, ht100⟩, HX.out.ref, by have := HWl.out.few; simp; omega⟩
    have HW6 : Hid (Sl w6 A base) := hd6.sl HW3.out HFb.out
    have HSz : Hid (w.heap.size ≤ w4.heap.size ∧ k1 < w4.heap.size ∧ w.heap.size ≤ k1) := ⟨HB4.out.size, Nat.lt_of_lt_of_le HK1.out.2 HB23.out.size, HK1.out.1⟩
    have HF6b : Hid (∀ k, C6.Fx k → base ≤ k) := fun k hk => by
      rcases HF6.out k (Or.inr (Or.inl hk)) with h | h
      · exact Nat.le_trans hz (HCz.out k h)
      · have := HSz.out.1
        have := HZw.out
        omega
    have HN6 : Hid (¬ C6.Fx k1 ∧ ¬ C.Fx k1) := by
      have h1 := HSz.out
      refine ⟨fun hk => ?_, fun hk => ?_⟩
      · rcases HF6.out k1 (Or.inr (Or.inl hk)) with h | h
        · have := HFl.out k1 h
          omega
        · omega
      · have := HFl.out k1 (Or.inr (Or.inl hk))
        omega
    have HDl : Hid _ := netDeliver A base C6.fb g _ C6.Fx (x.bag.length : Int) hg HX1.out w6 HW6.out HF6b.out HC6.out.net
    rw [HNet.out] at HDl
    have e6 := hC6.c4
    clear hd6 hC6 hf6 e4 HSd
    go_wp2_with fail
    refine (show Calls _ _ _ _ _ from HDl.out).mono ?_
    rintro e w7 ⟨rfl, hd7⟩
    obtain ⟨C7, hC7, hf7⟩ := HC6.out.did hd7
    have HC7 : Hid (Circ w7 rb g x2 sd sn C7) := hC7
    have HC7z : Hid (∀ k, C7.foot rb sd sn k → z ≤ k) := fun k hk => by
      have h1 := HSz.out.1
      have h2 := HZw.out
      have h3 := HD6.out.rest.size
      rcases hf7 k hk with h | h
      · rcases HF6.out k h with h | h
        · exact HCz.out k h
        · omega
      · omega
    have HW7 : Hid (Sl w7 A base) := hd7.sl HW6.out HF6b.out
    have HR7 : Hid (RowI w7 k1 (cnts g.n (x.nd p).hs)) := by
      have h1 := RowI.below HR1.out HB23.out HK1.out.2
      have h2 : RowI w6 k1 (cnts g.n (x.nd p).hs) := (HD6.out.rest.block k1 HSz.out.2.1 HN6.out.2).trans h1
      exact (hd7.rest.block k1 (Nat.lt_of_lt_of_le HSz.out.2.1 HD6.out.rest.size) HN6.out.1).trans h2
    have HBz : Hid (Below z w w7) := by
      have h1 := HZw.out
      have h2 := HSz.out.1
      have h6 : Below z w4 w6 := below_of_alike HD6.out.rest (fun k hk => HCz.out k (Or.inr (Or.inl hk))) (by omega)
      have h7 : Below z w6 w7 := below_of_alike hd7.rest (fun k hk => by
        rcases HF6.out k (Or.inr (Or.inl hk)) with h | h
        · exact HCz.out k h
        · omega) (by have := HD6.out.rest.size; omega)
      exact ((HB4.out.mono h1).trans h6).trans h7
    have HX2 : Hid (x2.Ok g) := HWf.out.ok (by omega)
    clear hd7 hC7 hf7 e6 HDl
    go_wp2_with fail
    refine (heard_any A base z rb g x2 sd sn p hg HX2.out hp w7 HW7.out ⟨C7, HC7.out, HC7z.out⟩).mono ?_
    rintro e w8 ⟨⟨k2, rfl, hk2, hr2⟩, hb8⟩
    have HB8 : Hid (Below w7.heap.size w7 w8) := hb8
    have HR8 : Hid (RowI w8 k2 (cnts g.n (x2.nd p).hs)) := hr2
    have HR9 : Hid (RowI w8 k1 (cnts g.n (x.nd p).hs)) := RowI.below HR7.out hb8 (RowI.lt HR7.out)
    have HC8 : Hid (Circ w8 rb g x2 sd sn C7) := HC7.out.low hb8
    have HW8 : Hid (Sl w8 A base) := HW7.out.low hb8
    have e8 := HC8.out.c4
    have HRg : Hid _ := netRefused A base C7.fb g x2 C7.Fx p w8 HW8.out HC8.out.net
    rw [ref_net hp] at HRg
    clear hr2 hb8 hk2
    go_wp2_with fail
    refine (show Calls _ _ _ _ _ from HRg.out).mono ?_
    rintro e w9 ⟨rfl, hb9⟩
    have HB9 : Hid (Below w7.heap.size w7 w9) := bthen HB8.out hb9
    have HRa : Hid (RowI w9 k1 (cnts g.n (x.nd p).hs)) := RowI.below HR9.out hb9 (RowI.lt HR9.out)
    have HRb2 : Hid (RowI w9 k2 (cnts g.n (x2.nd p).hs)) := RowI.below HR8.out hb9 (RowI.lt HR8.out)
    have HC9 : Hid (Circ w9 rb g x2 sd sn C7) := HC8.out.low hb9
    clear hb9 e8 HRg
    have e9 := HC9.out.c4
    go_wp2_with fail
    refine (netLeft C7.fb g x2 C7.Fx w9 HC9.out.net).mono ?_
    rintro e w10 ⟨rfl, hw10⟩
    subst hw10
    have c0 := HC9.out.c0
    have hrf0 := (HX.out.ref p hp).1
    have hrf1 := (HX.out.ref p hp).2
    have hwr : IntKind.i64.wrap (x.ref p + 1) = x.ref p + 1 := by rw [IntKind.wrap_i64]; omega
    have hrng := HHr.out.range
    have hf1 := HF1.out
    have hf3 := HF3.out
    have HNt : Hid (R.k ≠ 0 → R.s = x.nd p ∧ R.ps = []) := HHr.out.not
    have HEnd : Hid (∀ y, Below w10.heap.size w10 y → (∃ x', CircZ z y rb g x' sd sn ∧ Wld g x' (m + 1)) ∧ Below z w y) := fun y hy => ⟨⟨x2, ⟨C7, HC9.out.low hy, HC7z.out⟩, HWf.out⟩, HBz.out.trans ((bthen HB9.out hy).mono (CircZ.mk ⟨C7, HC7.out, HC7z.out⟩ : CircZ z w7 rb g x2 sd sn).le)⟩
    by_cases hk0 : R.k = 0
    · have hev : ev = 0 := HE2.out.2 (by omega)
      rw [if_pos hk0] at hf3
      rw [hk0, hf3, hev]
      have hne : (x.ref p == x.ref p + 1) = false := beq_eq_false_iff_ne.2 (by omega)
      have hge : (x.bag.length : Int) ≤ (x2.bag.length : Int) := by omega
      clear hk0 hf1 hf3 hrng
      generalize x.ref p = rf at *
      generalize x2.bag.length = l2 at *
      generalize x.bag.length = l1 at *
      go_wp2_with fail
      go_ret
      exact ⟨rfl, HEnd.out _ (Below.refl _ _)⟩
    · obtain ⟨hs, hps⟩ := HNt.out hk0
      rw [if_neg hk0] at hf3
      rw [hps] at hf1
      have hf1' : x2.bag.length = x.bag.length := by simpa using hf1
      have HRb : Hid (RowI w10 k2 (cnts g.n (x.nd p).hs)) := by
        have h1 := HRb2.out
        rw [HF2.out, hs] at h1
        exact h1
      have HCl : Hid ((cnts g.n (x.nd p).hs).length = g.n) := cnts_length _ _
      have hrz : rb < w10.heap.size := lt_of_cell c0
      have hK0 : ((R.k : Int) == 0) = false := by simp; omega
      have hK0n : ((R.k : Int) != 0) = true := by simp; omega
      rw [hf3, hf1']
      have hfive : (R.k = 5 ∧ ev = 5) ∨ (((R.k : Int) == 5) = false ∧ ev = 0) := by
        by_cases h5 : R.k = 5
        · exact Or.inl ⟨h5, HE2.out.1 h5⟩
        · exact Or.inr ⟨by simp; omega, HE2.out.2 h5⟩
      clear hf1 hf1' hf3 hs hps hrng
      generalize cnts g.n (x.nd p).hs = cs at *
      generalize x.ref p = rf at *
      generalize x.bag.length = l1 at *
      generalize R.k = kk at *
      rcases hfive with ⟨h5, hev⟩ | ⟨h5, hev⟩
      all_goals
        first | subst h5 | skip
        rw [hev]
        go_wp2_with fail
        go_loopw [24] (fun c wq => ∃ j : Nat, j ≤ g.n ∧ c = .int .i64 j ∧ Below w10.heap.size w10 wq) (fun c _ => g.n - (intOf c).toNat)
        case atStart => exact ⟨0, Nat.zero_le _, rfl, Below.refl _ _⟩
        case round =>
          obtain ⟨j, hjn, rfl, hb⟩ := hrel
          have HBq : Hid _ := hb
          have d0 := (HBq.out.cell (p := ⟨rb, 0, none⟩) hrz).trans c0
          clear hb
          by_cases hlt : j < g.n
          · have hji : (j : Int) < (g.n : Int) := by omega
            have f0 := RowI.cell (RowI.below HRa.out HBq.out (RowI.lt HRa.out)) (j := j) (by rw [HCl.out]; exact hlt)
            have f1 := RowI.cell (RowI.below HRb.out HBq.out (RowI.lt HRb.out)) (j := j) (by rw [HCl.out]; exact hlt)
            generalize cs.getD j 0 = cj at *
            go_wp2_with fail
            go_quiet (fail)
            go_wp2_with fail
            go_roundw
            case rel => exact ⟨j + 1, by omega, by go_num, by first | exact HBq.out | exact HBq.out.drew | exact below_drewN HBq.out _⟩
            case measure => simp [intOf]; omega
          · have hjn' : j = g.n := by omega
            subst hjn'
            go_wp2_with fail
            go_ret
            exact ⟨rfl, HEnd.out _ HBq.out⟩
end Go.Proofs.YtabecbjfamphbaaGreatDoor
