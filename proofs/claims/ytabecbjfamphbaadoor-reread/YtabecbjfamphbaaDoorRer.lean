/-
  The law Reread.
-/
import Derived.Test.YtabecbjfamphbaaDoorRer1
namespace Go.Proofs.YtabecbjfamphbaaDoor
open Go.RowKit Go.Stop Go.Extern

set_option maxRecDepth 100000 in
set_option maxHeartbeats 4000000 in
theorem Reread_any (a0 a1 : Addr) (N W B L K F O S Lw : Int) (ad : Option Addr) (len cap : Nat) (body : ByteArray) (vs : List Int) (i v : Int) (s : ByteArray) (w : World) (hw : Sent w a0 a1) (hT : ErrT w) (hi : Ints w ad len vs)
    (hN : I64 N) (hW : I64 W) (hB : I64 B) (hL : I64 L) (hK : I64 K) (hF : I64 F) (hO : I64 O) (hS : I64 S) (hLw : I64 Lw) (hvs : ∀ x ∈ vs, I64 x) (hI : I64 i) (hV : I64 v) (hs : s.size ≤ maxLen) :
    Calls Tryd.prog 5 #[.agg #[.int .i64 N, .int .i64 W, .int .i64 B, .int .i64 L], .agg #[.int .i64 K, .int .i64 F, .int .i64 O, .int .i64 S, .int .i64 Lw, .slice ad len cap, .string body], .int .i64 i, .int .i64 v, .string s] w
      fun e w' => e = .returned (.bool true) ∧ Below w.heap.size w w' := by
  have b1 := pk_bd N 7 (by omega)
  have b2 := pk_bd W 8 (by omega)
  have b3 := pk_bd B 41 (by omega)
  have b4 := pk_bd L 65535 (by omega)
  obtain ⟨n, hn⟩ : ∃ n : Nat, 2 + pk N 7 = n := ⟨(2 + pk N 7).toNat, by omega⟩
  have HFit : Hid (∀ x, Calls Tryd.prog 10 #[.agg #[.int .i64 N, .int .i64 W, .int .i64 B, .int .i64 L]] x fun e w' => e = .returned (.agg #[.int .i64 (n : Int), .int .i64 (1 + pk W 8), .int .i64 (pk B 41), .int .i64 (1 + pk L 65535)]) ∧ Below x.heap.size x w') := fun x => by
    have := fit_any N W B L x hN hW hB hL
    rw [hn] at this
    exact this
  have hG : okG n (1 + pk W 8) (pk B 41) (1 + pk L 65535) = true := okG_iff.2 ⟨by omega, by omega, by omega, by omega, by omega, by omega, by omega, by omega⟩
  generalize 1 + pk W 8 = W1 at *
  generalize pk B 41 = B1 at *
  generalize 1 + pk L 65535 = L1 at *
  have HG : Hid _ := hG
  have hn8 : n ≤ 8 := by omega
  have HFr : Hid (∀ x, Below w.heap.size w x → _) := fun x hx => frame_any n W1 B1 L1 K F O S Lw ad len cap body vs x hG (hi.below hx) hK hF hO hS hLw hvs
  have HW : Hid (Sent w a0 a1) := hw
  have HT : Hid (ErrT w) := hT
  have HS : Hid (s.size ≤ maxLen) := hs
  clear hw hT hi hG b1 b2 b3 b4 hn hN hW hB hL hK hF hO hS hLw hvs hs
  go_enter Tryd.func5, Tryd.ntmps5
  go_wp2_with fail
  have HC0 : Hid _ := (cf_alloc w N W B L 23).below (below1 _ (.cells #[.int .i64 K, .int .i64 F, .int .i64 O, .int .i64 S, .int .i64 Lw, .slice ad len cap, .string body] 26)) (by simp)
  have HS0 : Hid _ := sv_alloc (w.alloc (.cells #[.int .i64 N, .int .i64 W, .int .i64 B, .int .i64 L] 23)) (.int .i64 K) (.int .i64 F) (.int .i64 O) (.int .i64 S) (.int .i64 Lw) (.slice ad len cap) (.string body) 26
  rw [show (w.alloc (.cells #[.int .i64 N, .int .i64 W, .int .i64 B, .int .i64 L] 23)).heap.size = w.heap.size + 1 by simp] at HS0
  have HB0 : Hid _ := below2 w (.cells #[.int .i64 N, .int .i64 W, .int .i64 B, .int .i64 L] 23) (.cells #[.int .i64 K, .int .i64 F, .int .i64 O, .int .i64 S, .int .i64 Lw, .slice ad len cap, .string body] 26)
  generalize (w.alloc (.cells #[.int .i64 N, .int .i64 W, .int .i64 B, .int .i64 L] 23)).alloc (.cells #[.int .i64 K, .int .i64 F, .int .i64 O, .int .i64 S, .int .i64 Lw, .slice ad len cap, .string body] 26) = X0 at *
  refine (HFit.out _).mono ?_
  rintro e w1 ⟨rfl, hb⟩
  have HC1 : Hid _ := HC0.out.below hb HC0.out.z
  have HS1 : Hid _ := HS0.out.below hb HS0.out.s.z
  have HB1 : Hid _ := bthen HB0.out hb
  clear hb HC0 HS0 HB0 HFit
  have hc := HC1.out
  have hsv := HS1.out
  obtain ⟨c0, c1, c2, c3, cf, cz⟩ := hc
  obtain ⟨⟨f0, f1, f2, f3, f4, f5, f6, fz⟩, ff⟩ := hsv
  go_wp2_with fail
  have HC2 : Hid (Cf w.heap.size ((((w1.setCell ⟨w.heap.size, 0, none⟩ (.int .i64 (n : Int))).setCell ⟨w.heap.size, 1, none⟩ (.int .i64 W1)).setCell ⟨w.heap.size, 2, none⟩ (.int .i64 B1)).setCell ⟨w.heap.size, 3, none⟩ (.int .i64 L1)) n W1 B1 L1) := HC1.out.set
  have HS2 : Hid (Sv (w.heap.size + 1) ((((w1.setCell ⟨w.heap.size, 0, none⟩ (.int .i64 (n : Int))).setCell ⟨w.heap.size, 1, none⟩ (.int .i64 W1)).setCell ⟨w.heap.size, 2, none⟩ (.int .i64 B1)).setCell ⟨w.heap.size, 3, none⟩ (.int .i64 L1)) (.int .i64 K) (.int .i64 F) (.int .i64 O) (.int .i64 S) (.int .i64 Lw) (.slice ad len cap) (.string body)) := HS1.out.off (off_set4 _ _ _ _ _ _) (by omega)
  have HB2 : Hid (Below w.heap.size w ((((w1.setCell ⟨w.heap.size, 0, none⟩ (.int .i64 (n : Int))).setCell ⟨w.heap.size, 1, none⟩ (.int .i64 W1)).setCell ⟨w.heap.size, 2, none⟩ (.int .i64 B1)).setCell ⟨w.heap.size, 3, none⟩ (.int .i64 L1))) := below_set4 HB1.out (Nat.le_refl _) _ _ _ _
  generalize (((w1.setCell ⟨w.heap.size, 0, none⟩ (.int .i64 (n : Int))).setCell ⟨w.heap.size, 1, none⟩ (.int .i64 W1)).setCell ⟨w.heap.size, 2, none⟩ (.int .i64 B1)).setCell ⟨w.heap.size, 3, none⟩ (.int .i64 L1) = X1 at *
  clear c0 c1 c2 c3 cf cz f0 f1 f2 f3 f4 f5 f6 fz ff HC1 HS1 HB1
  refine (HFr.out X1 HB2.out).mono ?_
  rintro e w2 ⟨⟨K1, F1, O1, Q1, M1, ad1, cap1, vs1, bd1, rfl, hfit, hint, hblk⟩, hb⟩
  have hz1 : w.heap.size + 1 < X1.heap.size := HS2.out.s.z
  have HC3 : Hid _ := HC2.out.below hb HC2.out.z
  have HS3 : Hid _ := HS2.out.below hb HS2.out.s.z
  have HB3 : Hid _ := bthen HB2.out hb
  have HI3 : Hid (Ints w2 ad1 n vs1) := hint
  have HBlk : Hid (∀ b off, ad1 = some ⟨b, off, none⟩ → w.heap.size + 1 < b) := fun b off e => by have := hblk b off e; omega
  have HFt : Hid _ := hfit
  clear hb HC2 HS2 HB2 HFr hint hblk hfit hz1
  have hc := HC3.out
  have hsv := HS3.out
  obtain ⟨c0, c1, c2, c3, cf, cz⟩ := hc
  obtain ⟨⟨f0, f1, f2, f3, f4, f5, f6, fz⟩, ff⟩ := hsv
  go_wp2_with fail
  have HC4 : Hid (Cf w.heap.size (((((((w2.setCell ⟨w.heap.size + 1, 0, none⟩ (.int .i64 K1)).setCell ⟨w.heap.size + 1, 1, none⟩ (.int .i64 F1)).setCell ⟨w.heap.size + 1, 2, none⟩ (.int .i64 O1)).setCell ⟨w.heap.size + 1, 3, none⟩ (.int .i64 Q1)).setCell ⟨w.heap.size + 1, 4, none⟩ (.int .i64 M1)).setCell ⟨w.heap.size + 1, 5, none⟩ (.slice ad1 n cap1)).setCell ⟨w.heap.size + 1, 6, none⟩ (.string bd1)) n W1 B1 L1) := HC3.out.off (off_set7 _ _ _ _ _ _ _ _ _) (by omega)
  have HS4 : Hid (Sv (w.heap.size + 1) (((((((w2.setCell ⟨w.heap.size + 1, 0, none⟩ (.int .i64 K1)).setCell ⟨w.heap.size + 1, 1, none⟩ (.int .i64 F1)).setCell ⟨w.heap.size + 1, 2, none⟩ (.int .i64 O1)).setCell ⟨w.heap.size + 1, 3, none⟩ (.int .i64 Q1)).setCell ⟨w.heap.size + 1, 4, none⟩ (.int .i64 M1)).setCell ⟨w.heap.size + 1, 5, none⟩ (.slice ad1 n cap1)).setCell ⟨w.heap.size + 1, 6, none⟩ (.string bd1)) (.int .i64 K1) (.int .i64 F1) (.int .i64 O1) (.int .i64 Q1) (.int .i64 M1) (.slice ad1 n cap1) (.string bd1)) := HS3.out.set _ _ _ _ _ _ _
  have HB4 : Hid (Below w.heap.size w (((((((w2.setCell ⟨w.heap.size + 1, 0, none⟩ (.int .i64 K1)).setCell ⟨w.heap.size + 1, 1, none⟩ (.int .i64 F1)).setCell ⟨w.heap.size + 1, 2, none⟩ (.int .i64 O1)).setCell ⟨w.heap.size + 1, 3, none⟩ (.int .i64 Q1)).setCell ⟨w.heap.size + 1, 4, none⟩ (.int .i64 M1)).setCell ⟨w.heap.size + 1, 5, none⟩ (.slice ad1 n cap1)).setCell ⟨w.heap.size + 1, 6, none⟩ (.string bd1))) := below_set7 HB3.out (by omega) _ _ _ _ _ _ _
  have HI4 : Hid (Ints (((((((w2.setCell ⟨w.heap.size + 1, 0, none⟩ (.int .i64 K1)).setCell ⟨w.heap.size + 1, 1, none⟩ (.int .i64 F1)).setCell ⟨w.heap.size + 1, 2, none⟩ (.int .i64 O1)).setCell ⟨w.heap.size + 1, 3, none⟩ (.int .i64 Q1)).setCell ⟨w.heap.size + 1, 4, none⟩ (.int .i64 M1)).setCell ⟨w.heap.size + 1, 5, none⟩ (.slice ad1 n cap1)).setCell ⟨w.heap.size + 1, 6, none⟩ (.string bd1)) ad1 n vs1) := HI3.out.off (off_set7 _ _ _ _ _ _ _ _ _) (fun _ c off e => by have := HBlk.out c off e; omega)
  generalize ((((((w2.setCell ⟨w.heap.size + 1, 0, none⟩ (.int .i64 K1)).setCell ⟨w.heap.size + 1, 1, none⟩ (.int .i64 F1)).setCell ⟨w.heap.size + 1, 2, none⟩ (.int .i64 O1)).setCell ⟨w.heap.size + 1, 3, none⟩ (.int .i64 Q1)).setCell ⟨w.heap.size + 1, 4, none⟩ (.int .i64 M1)).setCell ⟨w.heap.size + 1, 5, none⟩ (.slice ad1 n cap1)).setCell ⟨w.heap.size + 1, 6, none⟩ (.string bd1) = X2 at *
  clear c0 c1 c2 c3 cf cz f0 f1 f2 f3 f4 f5 f6 fz ff HC3 HS3 HB3 HI3
  refine (enc_right a0 a1 n W1 B1 L1 K1 F1 O1 Q1 M1 vs1 bd1 HG.out HFt.out ad1 cap1 X2 (HW.out.below HB4.out) HI4.out).mono ?_
  rintro e w3 ⟨rfl, hb⟩
  have HC5 : Hid _ := HC4.out.below hb HC4.out.z
  have HS5 : Hid _ := HS4.out.below hb HS4.out.s.z
  have HB5 : Hid _ := bthen HB4.out hb
  have HI5 : Hid (Ints w3 ad1 n vs1) := HI4.out.below hb
  clear hb HC4 HS4 HB4 HI4
  have HD1 : Hid (∀ x, Sent x a0 a1 → ErrT x → _) := fun x hx hT => dec_back a0 a1 n W1 B1 L1 K1 F1 O1 Q1 M1 vs1 bd1 HG.out HFt.out x hx hT
  have HD2 : Hid (∀ x, Sent x a0 a1 → ErrT x → _) := fun x hx hT => dec_back a0 a1 n 8 40 65535 K1 F1 O1 Q1 M1 vs1 bd1 (okG_wide HG.out) (HFt.out.wide HG.out) x hx hT
  obtain ⟨ht9, ht100⟩ := frame_size HG.out HFt.out
  have HTR : Hid (rAll n W1 B1 L1 (txt (frameBytes n K1 F1 O1 Q1 M1 vs1 bd1)) = none) := frame_read HG.out HFt.out
  generalize txt (frameBytes n K1 F1 O1 Q1 M1 vs1 bd1) = t at *
  have HTu : Hid (∀ x, Calls Tryd.prog 15 #[.string t, .int .i64 i, .int .i64 v] x fun e w' => (∃ t', e = .returned (.string t') ∧ t'.size = t.size ∧ rAll n W1 B1 L1 t' ≠ none) ∧ Below x.heap.size x w') := fun x => by
    refine (turned_any t i v x (by omega) (by omega) hI hV).mono ?_
    rintro e w' ⟨⟨j, y, hj, hy, rfl⟩, hb⟩
    exact ⟨⟨_, rfl, by rw [txt_size, List.length_set]; simp, turned_bad HTR.out hj hy⟩, hb⟩
  clear hI hV HTR
  have ht9i : ¬ (t.size : Int) < 9 := by omega
  have hc := HC5.out
  have hsv := HS5.out
  obtain ⟨c0, c1, c2, c3, cf, cz⟩ := hc
  obtain ⟨⟨f0, f1, f2, f3, f4, f5, f6, fz⟩, ff⟩ := hsv
  go_wp2_with fail
  refine (HD1.out w3 (HW.out.below HB5.out) (HT.out.below HB5.out)).mono ?_
  rintro e w4 ⟨⟨g1, hg1, rfl, hrow⟩, hb⟩
  have HC6 : Hid (Cf w.heap.size (w4.alloc (.cells #[.int .i64 K1, .int .i64 F1, .int .i64 O1, .int .i64 Q1, .int .i64 M1, .slice (some ⟨g1, 0, none⟩) n n, .string bd1] 26)) n W1 B1 L1) := (HC5.out.below hb HC5.out.z).below (below1 _ _) (Nat.lt_of_lt_of_le HC5.out.z hb.size)
  have HS6 : Hid (Sv (w.heap.size + 1) (w4.alloc (.cells #[.int .i64 K1, .int .i64 F1, .int .i64 O1, .int .i64 Q1, .int .i64 M1, .slice (some ⟨g1, 0, none⟩) n n, .string bd1] 26)) (.int .i64 K1) (.int .i64 F1) (.int .i64 O1) (.int .i64 Q1) (.int .i64 M1) (.slice ad1 n cap1) (.string bd1)) := (HS5.out.below hb HS5.out.s.z).below (below1 _ _) (Nat.lt_of_lt_of_le HS5.out.s.z hb.size)
  have HB6 : Hid (Below w.heap.size w (w4.alloc (.cells #[.int .i64 K1, .int .i64 F1, .int .i64 O1, .int .i64 Q1, .int .i64 M1, .slice (some ⟨g1, 0, none⟩) n n, .string bd1] 26))) := bthen (bthen HB5.out hb) (below1 _ _)
  have HI6 : Hid (Ints (w4.alloc (.cells #[.int .i64 K1, .int .i64 F1, .int .i64 O1, .int .i64 Q1, .int .i64 M1, .slice (some ⟨g1, 0, none⟩) n n, .string bd1] 26)) ad1 n vs1) := (HI5.out.below hb).alloc _
  have HR6 : Hid (Ints (w4.alloc (.cells #[.int .i64 K1, .int .i64 F1, .int .i64 O1, .int .i64 Q1, .int .i64 M1, .slice (some ⟨g1, 0, none⟩) n n, .string bd1] 26)) (some ⟨g1, 0, none⟩) n vs1) := by
    have h := RowI.ints (vs := vs1) (ms := []) (by simpa using hrow)
    rw [HI5.out.len] at h
    exact h.alloc _
  have HG6 : Hid (Sv w4.heap.size (w4.alloc (.cells #[.int .i64 K1, .int .i64 F1, .int .i64 O1, .int .i64 Q1, .int .i64 M1, .slice (some ⟨g1, 0, none⟩) n n, .string bd1] 26)) (.int .i64 K1) (.int .i64 F1) (.int .i64 O1) (.int .i64 Q1) (.int .i64 M1) (.slice (some ⟨g1, 0, none⟩) n n) (.string bd1)) := sv_alloc w4 _ _ _ _ _ _ _ _
  have HIn : Hid (0 < n → ∀ c off, ad1 = some ⟨c, off, none⟩ → c ≠ w4.heap.size) := fun h0 c off e => by
    obtain ⟨b, off', e', hl, _⟩ := HI5.out.cell 0 h0
    rw [e] at e'
    cases e'
    have := hb.size
    omega
  have hz4 : w.heap.size + 1 < w4.heap.size := Nat.lt_of_lt_of_le HS5.out.s.z hb.size
  clear hb hrow HC5 HS5 HB5 HI5 HD1 c0 c1 c2 c3 cf cz
  replace f0 := HS6.out.s.c0
  replace f1 := HS6.out.s.c1
  replace f2 := HS6.out.s.c2
  replace f3 := HS6.out.s.c3
  replace f4 := HS6.out.s.c4
  replace f5 := HS6.out.s.c5
  replace f6 := HS6.out.s.c6
  clear ff
  go_wp2_with fail
  generalize hA4 : w4.alloc (.cells #[.int .i64 K1, .int .i64 F1, .int .i64 O1, .int .i64 Q1, .int .i64 M1, .slice (some ⟨g1, 0, none⟩) n n, .string bd1] 26) = X4 at *
  refine (same_true K1 F1 O1 Q1 M1 ad1 (some ⟨g1, 0, none⟩) n cap1 n bd1 vs1 X4 HI6.out HR6.out (by omega)).mono ?_
  rintro e w5 ⟨rfl, hb⟩
  have HC7 : Hid _ := HC6.out.below hb HC6.out.z
  have HS7 : Hid _ := HS6.out.below hb HS6.out.s.z
  have HB7 : Hid _ := bthen HB6.out hb
  have HI7 : Hid _ := HI6.out.below hb
  have HG7 : Hid _ := HG6.out.below hb HG6.out.s.z
  clear hb HC6 HS6 HB6 HI6 HR6 HG6 f0 f1 f2 f3 f4 f5 f6 fz hA4
  have hc := HC7.out
  obtain ⟨c0, c1, c2, c3, cf, cz⟩ := hc
  go_wp2_with fail
  refine (HD2.out (w5.alloc (.cells #[.int .i64 (n : Int), .int .i64 8, .int .i64 40, .int .i64 65535] 23)) ((HW.out.below HB7.out).alloc _) ((HT.out.below HB7.out).below (below1 _ _))).mono ?_
  rintro e w6 ⟨⟨g2, hg2, rfl, hrow⟩, hb0⟩
  have hb : Below w5.heap.size w5 w6 := bthen (below1 _ _) hb0
  have hg2' : w5.heap.size < g2 := by simp at hg2; omega
  have HC8 : Hid _ := HC7.out.below hb HC7.out.z
  have HS8 : Hid _ := HS7.out.below hb HS7.out.s.z
  have HB8 : Hid _ := bthen HB7.out hb
  have HI8 : Hid _ := HI7.out.below hb
  have HG8 : Hid _ := HG7.out.below hb HG7.out.s.z
  have HR8 : Hid (RowI w6 g2 vs1) := hrow
  have hz5 : w4.heap.size < w5.heap.size := HG7.out.s.z
  clear hb hb0 hrow HC7 HS7 HB7 HI7 HG7 HD2 hg2 c0 c1 c2 c3 cf cz
  have hsv := HS8.out
  obtain ⟨⟨f0, f1, f2, f3, f4, f5, f6, fz⟩, ff⟩ := hsv
  have hgv := HG8.out
  obtain ⟨⟨g0', g1', g2', g3', g4', g5', g6', gz⟩, gf⟩ := hgv
  go_wp2_with fail
  have HC9 : Hid (Cf w.heap.size (((((((w6.setCell ⟨w4.heap.size, 0, none⟩ (.int .i64 K1)).setCell ⟨w4.heap.size, 1, none⟩ (.int .i64 F1)).setCell ⟨w4.heap.size, 2, none⟩ (.int .i64 O1)).setCell ⟨w4.heap.size, 3, none⟩ (.int .i64 Q1)).setCell ⟨w4.heap.size, 4, none⟩ (.int .i64 M1)).setCell ⟨w4.heap.size, 5, none⟩ (.slice (some ⟨g2, 0, none⟩) n n)).setCell ⟨w4.heap.size, 6, none⟩ (.string bd1)) n W1 B1 L1) := HC8.out.off (off_set7 _ _ _ _ _ _ _ _ _) (by omega)
  have HS9 : Hid (Sv (w.heap.size + 1) (((((((w6.setCell ⟨w4.heap.size, 0, none⟩ (.int .i64 K1)).setCell ⟨w4.heap.size, 1, none⟩ (.int .i64 F1)).setCell ⟨w4.heap.size, 2, none⟩ (.int .i64 O1)).setCell ⟨w4.heap.size, 3, none⟩ (.int .i64 Q1)).setCell ⟨w4.heap.size, 4, none⟩ (.int .i64 M1)).setCell ⟨w4.heap.size, 5, none⟩ (.slice (some ⟨g2, 0, none⟩) n n)).setCell ⟨w4.heap.size, 6, none⟩ (.string bd1)) (.int .i64 K1) (.int .i64 F1) (.int .i64 O1) (.int .i64 Q1) (.int .i64 M1) (.slice ad1 n cap1) (.string bd1)) := HS8.out.off (off_set7 _ _ _ _ _ _ _ _ _) (by omega)
  have HB9 : Hid (Below w.heap.size w (((((((w6.setCell ⟨w4.heap.size, 0, none⟩ (.int .i64 K1)).setCell ⟨w4.heap.size, 1, none⟩ (.int .i64 F1)).setCell ⟨w4.heap.size, 2, none⟩ (.int .i64 O1)).setCell ⟨w4.heap.size, 3, none⟩ (.int .i64 Q1)).setCell ⟨w4.heap.size, 4, none⟩ (.int .i64 M1)).setCell ⟨w4.heap.size, 5, none⟩ (.slice (some ⟨g2, 0, none⟩) n n)).setCell ⟨w4.heap.size, 6, none⟩ (.string bd1))) := below_set7 HB8.out (by omega) _ _ _ _ _ _ _
  have HI9 : Hid (Ints (((((((w6.setCell ⟨w4.heap.size, 0, none⟩ (.int .i64 K1)).setCell ⟨w4.heap.size, 1, none⟩ (.int .i64 F1)).setCell ⟨w4.heap.size, 2, none⟩ (.int .i64 O1)).setCell ⟨w4.heap.size, 3, none⟩ (.int .i64 Q1)).setCell ⟨w4.heap.size, 4, none⟩ (.int .i64 M1)).setCell ⟨w4.heap.size, 5, none⟩ (.slice (some ⟨g2, 0, none⟩) n n)).setCell ⟨w4.heap.size, 6, none⟩ (.string bd1)) ad1 n vs1) := HI8.out.off (off_set7 _ _ _ _ _ _ _ _ _) HIn.out
  have HG9 : Hid (Sv w4.heap.size (((((((w6.setCell ⟨w4.heap.size, 0, none⟩ (.int .i64 K1)).setCell ⟨w4.heap.size, 1, none⟩ (.int .i64 F1)).setCell ⟨w4.heap.size, 2, none⟩ (.int .i64 O1)).setCell ⟨w4.heap.size, 3, none⟩ (.int .i64 Q1)).setCell ⟨w4.heap.size, 4, none⟩ (.int .i64 M1)).setCell ⟨w4.heap.size, 5, none⟩ (.slice (some ⟨g2, 0, none⟩) n n)).setCell ⟨w4.heap.size, 6, none⟩ (.string bd1)) (.int .i64 K1) (.int .i64 F1) (.int .i64 O1) (.int .i64 Q1) (.int .i64 M1) (.slice (some ⟨g2, 0, none⟩) n n) (.string bd1)) := HG8.out.set _ _ _ _ _ _ _
  have HR9 : Hid (Ints (((((((w6.setCell ⟨w4.heap.size, 0, none⟩ (.int .i64 K1)).setCell ⟨w4.heap.size, 1, none⟩ (.int .i64 F1)).setCell ⟨w4.heap.size, 2, none⟩ (.int .i64 O1)).setCell ⟨w4.heap.size, 3, none⟩ (.int .i64 Q1)).setCell ⟨w4.heap.size, 4, none⟩ (.int .i64 M1)).setCell ⟨w4.heap.size, 5, none⟩ (.slice (some ⟨g2, 0, none⟩) n n)).setCell ⟨w4.heap.size, 6, none⟩ (.string bd1)) (some ⟨g2, 0, none⟩) n vs1) := by
    have h := RowI.ints (vs := vs1) (ms := []) (by simpa using HR8.out.off (off_set7 w6 w4.heap.size (.int .i64 K1) (.int .i64 F1) (.int .i64 O1) (.int .i64 Q1) (.int .i64 M1) (.slice (some ⟨g2, 0, none⟩) n n) (.string bd1)) (by omega))
    rw [HI8.out.len] at h
    exact h
  generalize ((((((w6.setCell ⟨w4.heap.size, 0, none⟩ (.int .i64 K1)).setCell ⟨w4.heap.size, 1, none⟩ (.int .i64 F1)).setCell ⟨w4.heap.size, 2, none⟩ (.int .i64 O1)).setCell ⟨w4.heap.size, 3, none⟩ (.int .i64 Q1)).setCell ⟨w4.heap.size, 4, none⟩ (.int .i64 M1)).setCell ⟨w4.heap.size, 5, none⟩ (.slice (some ⟨g2, 0, none⟩) n n)).setCell ⟨w4.heap.size, 6, none⟩ (.string bd1) = X6 at *
  clear f0 f1 f2 f3 f4 f5 f6 fz ff g0' g1' g2' g3' g4' g5' g6' gz gf HC8 HS8 HB8 HI8 HG8 HR8
  refine (same_true K1 F1 O1 Q1 M1 ad1 (some ⟨g2, 0, none⟩) n cap1 n bd1 vs1 X6 HI9.out HR9.out (by omega)).mono ?_
  rintro e w7 ⟨rfl, hb⟩
  have HCA : Hid _ := HC9.out.below hb HC9.out.z
  have HBA : Hid _ := bthen HB9.out hb
  have HGA : Hid _ := HG9.out.below hb HG9.out.s.z
  clear hb HC9 HS9 HB9 HI9 HG9 HR9
  have hc := HCA.out
  obtain ⟨c0, c1, c2, c3, cf, cz⟩ := hc
  have hgv := HGA.out
  obtain ⟨⟨g0', g1', g2', g3', g4', g5', g6', gz⟩, gf⟩ := hgv
  go_wp2_with fail
  go_region_with (first
    | (go_at_call 15; refine (HTu.out w7.drew).mono ?_; rintro e wt ⟨⟨t', rfl, hts, htr⟩, hbt⟩; have HBt : Hid (Below w.heap.size w wt) := bthen HBA.out.drew hbt; have HCt : Hid _ := (HCA.out.below (c := w7.heap.size) (Below.refl _ _).drew HCA.out.z).below hbt HCA.out.z; have HGt : Hid _ := (HGA.out.below (c := w7.heap.size) (Below.refl _ _).drew HGA.out.s.z).below hbt HGA.out.s.z; have HTt : Hid _ := htr; clear hbt htr; have hct := HCt.out; obtain ⟨d0, d1, d2, d3, df, dz⟩ := hct)
    | (go_at_call 13; refine (dec_bad a0 a1 n W1 B1 L1 t' HG.out ?_ HTt.out wt ?_ ?_).mono ?_; rw [hts]; unfold maxLen; omega; exact HW.out.below HBt.out; exact HT.out.below HBt.out; rintro e wd ⟨⟨p, hp0, hp1, rfl⟩, hbd⟩; have HBd : Hid (Below w.heap.size w wd) := bthen HBt.out hbd; have HCd : Hid _ := HCt.out.below hbd HCt.out.z; have HGd : Hid _ := HGt.out.below hbd HGt.out.s.z; clear hbd; have hgd := HGd.out; obtain ⟨⟨e0, e1, e2, e3, e4, e5, e6, ez⟩, ef⟩ := hgd))
  all_goals
    have hp2 : ¬ p < 0 := by omega
    have hp3 : ¬ (t.size : Int) < p := by omega
    have hcd := HCd.out
    obtain ⟨k0, k1, k2, k3, kf, kz⟩ := hcd
    go_wp2_with fail
    have HCe : Hid (Cf w.heap.size (((((((wd.setCell ⟨w4.heap.size, 0, none⟩ (.int .i64 0)).setCell ⟨w4.heap.size, 1, none⟩ (.int .i64 0)).setCell ⟨w4.heap.size, 2, none⟩ (.int .i64 0)).setCell ⟨w4.heap.size, 3, none⟩ (.int .i64 0)).setCell ⟨w4.heap.size, 4, none⟩ (.int .i64 0)).setCell ⟨w4.heap.size, 5, none⟩ (.slice none 0 0)).setCell ⟨w4.heap.size, 6, none⟩ (.string ⟨#[]⟩)) n W1 B1 L1) := HCd.out.off (off_set7 _ _ _ _ _ _ _ _ _) (by omega)
    have HGe : Hid (Sv w4.heap.size (((((((wd.setCell ⟨w4.heap.size, 0, none⟩ (.int .i64 0)).setCell ⟨w4.heap.size, 1, none⟩ (.int .i64 0)).setCell ⟨w4.heap.size, 2, none⟩ (.int .i64 0)).setCell ⟨w4.heap.size, 3, none⟩ (.int .i64 0)).setCell ⟨w4.heap.size, 4, none⟩ (.int .i64 0)).setCell ⟨w4.heap.size, 5, none⟩ (.slice none 0 0)).setCell ⟨w4.heap.size, 6, none⟩ (.string ⟨#[]⟩)) (.int .i64 0) (.int .i64 0) (.int .i64 0) (.int .i64 0) (.int .i64 0) (.slice none 0 0) (.string ⟨#[]⟩)) := HGd.out.set _ _ _ _ _ _ _
    have HBe : Hid (Below w.heap.size w (((((((wd.setCell ⟨w4.heap.size, 0, none⟩ (.int .i64 0)).setCell ⟨w4.heap.size, 1, none⟩ (.int .i64 0)).setCell ⟨w4.heap.size, 2, none⟩ (.int .i64 0)).setCell ⟨w4.heap.size, 3, none⟩ (.int .i64 0)).setCell ⟨w4.heap.size, 4, none⟩ (.int .i64 0)).setCell ⟨w4.heap.size, 5, none⟩ (.slice none 0 0)).setCell ⟨w4.heap.size, 6, none⟩ (.string ⟨#[]⟩))) := below_set7 HBd.out (by omega) _ _ _ _ _ _ _
    generalize ((((((wd.setCell ⟨w4.heap.size, 0, none⟩ (.int .i64 0)).setCell ⟨w4.heap.size, 1, none⟩ (.int .i64 0)).setCell ⟨w4.heap.size, 2, none⟩ (.int .i64 0)).setCell ⟨w4.heap.size, 3, none⟩ (.int .i64 0)).setCell ⟨w4.heap.size, 4, none⟩ (.int .i64 0)).setCell ⟨w4.heap.size, 5, none⟩ (.slice none 0 0)).setCell ⟨w4.heap.size, 6, none⟩ (.string ⟨#[]⟩) = Xe at *
    clear k0 k1 k2 k3 kf kz e0 e1 e2 e3 e4 e5 e6 ez ef d0 d1 d2 d3 df dz c0 c1 c2 c3 cf cz g0' g1' g2' g3' g4' g5' g6' gz gf HCd HGd HBd HCt HGt HBt HTt HCA HBA HGA hp2 hp3
    by_cases hr : rAll n W1 B1 L1 s = none
    · obtain ⟨K2, F2, O2, Q2, M2, vs2, bd2, hf2, rfl⟩ := dec_some hr
      have HF2 : Hid _ := hf2
      refine (dec_back a0 a1 n W1 B1 L1 K2 F2 O2 Q2 M2 vs2 bd2 HG.out HF2.out Xe (HW.out.below HBe.out) (HT.out.below HBe.out)).mono ?_
      rintro e we ⟨⟨g3, hg3, rfl, hrow⟩, hb⟩
      have HCf : Hid _ := HCe.out.below hb HCe.out.z
      have HGf : Hid _ := HGe.out.below hb HGe.out.s.z
      have HBf : Hid _ := bthen HBe.out hb
      have HRf : Hid (RowI we g3 vs2) := hrow
      have hge : w4.heap.size < Xe.heap.size := HGe.out.s.z
      have hl2 : Hid (vs2.length = n) := by have := HF2.out.len; exact Int.ofNat.inj this
      have HEn : Hid (∀ ad x, Sent x a0 a1 → Ints x ad n vs2 → _) := fun ad x hx hi => enc_right a0 a1 n W1 B1 L1 K2 F2 O2 Q2 M2 vs2 bd2 HG.out HF2.out ad n x hx hi
      generalize txt (frameBytes n K2 F2 O2 Q2 M2 vs2 bd2) = s at *
      clear hb hrow HCe HGe HBe hf2 HF2 hr
      have hcf := HCf.out
      obtain ⟨k0, k1, k2, k3, kf, kz⟩ := hcf
      have hgf := HGf.out
      obtain ⟨⟨e0, e1, e2, e3, e4, e5, e6, ez⟩, ef⟩ := hgf
      go_wp2_with fail
      have HBg : Hid (Below w.heap.size w (((((((we.setCell ⟨w4.heap.size, 0, none⟩ (.int .i64 K2)).setCell ⟨w4.heap.size, 1, none⟩ (.int .i64 F2)).setCell ⟨w4.heap.size, 2, none⟩ (.int .i64 O2)).setCell ⟨w4.heap.size, 3, none⟩ (.int .i64 Q2)).setCell ⟨w4.heap.size, 4, none⟩ (.int .i64 M2)).setCell ⟨w4.heap.size, 5, none⟩ (.slice (some ⟨g3, 0, none⟩) n n)).setCell ⟨w4.heap.size, 6, none⟩ (.string bd2))) := below_set7 HBf.out (by omega) _ _ _ _ _ _ _
      have HRg : Hid (Ints (((((((we.setCell ⟨w4.heap.size, 0, none⟩ (.int .i64 K2)).setCell ⟨w4.heap.size, 1, none⟩ (.int .i64 F2)).setCell ⟨w4.heap.size, 2, none⟩ (.int .i64 O2)).setCell ⟨w4.heap.size, 3, none⟩ (.int .i64 Q2)).setCell ⟨w4.heap.size, 4, none⟩ (.int .i64 M2)).setCell ⟨w4.heap.size, 5, none⟩ (.slice (some ⟨g3, 0, none⟩) n n)).setCell ⟨w4.heap.size, 6, none⟩ (.string bd2)) (some ⟨g3, 0, none⟩) n vs2) := by
        have h := RowI.ints (vs := vs2) (ms := []) (by simpa using HRf.out.off (off_set7 we w4.heap.size (.int .i64 K2) (.int .i64 F2) (.int .i64 O2) (.int .i64 Q2) (.int .i64 M2) (.slice (some ⟨g3, 0, none⟩) n n) (.string bd2)) (by omega))
        rw [hl2.out] at h
        exact h
      generalize ((((((we.setCell ⟨w4.heap.size, 0, none⟩ (.int .i64 K2)).setCell ⟨w4.heap.size, 1, none⟩ (.int .i64 F2)).setCell ⟨w4.heap.size, 2, none⟩ (.int .i64 O2)).setCell ⟨w4.heap.size, 3, none⟩ (.int .i64 Q2)).setCell ⟨w4.heap.size, 4, none⟩ (.int .i64 M2)).setCell ⟨w4.heap.size, 5, none⟩ (.slice (some ⟨g3, 0, none⟩) n n)).setCell ⟨w4.heap.size, 6, none⟩ (.string bd2) = Xf at *
      refine (HEn.out _ Xf (HW.out.below HBg.out) HRg.out).mono ?_
      rintro e wf ⟨rfl, hb⟩
      have HBh : Hid _ := bthen HBg.out hb
      clear hb k0 k1 k2 k3 kf kz e0 e1 e2 e3 e4 e5 e6 ez ef
      go_wp2_with fail
      go_ret
      exact ⟨rfl, HBh.out⟩
    · refine (dec_bad a0 a1 n W1 B1 L1 s HG.out HS.out hr Xe (HW.out.below HBe.out) (HT.out.below HBe.out)).mono ?_
      rintro e we ⟨⟨p2, hq0, hq1, rfl⟩, hb⟩
      have HGf : Hid _ := HGe.out.below hb HGe.out.s.z
      have HBf : Hid _ := bthen HBe.out hb
      clear hb HCe HGe HBe
      have hgf := HGf.out
      obtain ⟨⟨e0, e1, e2, e3, e4, e5, e6, ez⟩, ef⟩ := hgf
      go_wp2_with fail
      go_ret
      exact ⟨rfl, below_set7 HBf.out (by omega) _ _ _ _ _ _ _⟩
end Go.Proofs.YtabecbjfamphbaaDoor
