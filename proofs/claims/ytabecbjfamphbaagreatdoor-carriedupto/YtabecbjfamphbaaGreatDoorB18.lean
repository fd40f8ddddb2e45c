/-
  Texts that the proofs of this seat share, joined: RefEnc.
-/
import Derived.Test.YtabecbjfamphbaaGreatDoorB17
import Derived.Deep.RegionHeld3
/- The reference's bytes and Encode. -/
namespace Go.Proofs.YtabecbjfamphbaaGreatDoor
open Go.RowKit Go.Stop Go.Extern

theorem refNumber_int (x n' : Int) (n : Nat) (hn' : n' = (n : Int)) (w : World) (hx0 : 0 ≤ x) (hx : x < 4611686018427387904) (hn : n ≤ 8) :
    Calls Tryz.prog 178 #[.int .i64 x, .int .i64 n'] w fun e w' => e = .returned (.string (txt (num x.toNat n))) ∧ Below w.heap.size w w' := by
  subst hn'
  obtain ⟨y, rfl⟩ := Int.eq_ofNat_of_zero_le hx0
  exact refNumber_any y n w (by omega) hn
theorem txt_num_size (x n : Nat) : (txt (num x n)).size = n := by rw [txt_size, num_length]
theorem keep6 {z : Nat} {x0 x y : World} {N K F : Int} (h : x.cell? ⟨z + 1, 0, none⟩ = some (.int .i64 K) ∧ x.cell? ⟨z, 0, none⟩ = some (.int .i64 N) ∧ x.cell? ⟨z + 1, 1, none⟩ = some (.int .i64 F) ∧ z + 2 ≤ x.heap.size ∧ Below x0.heap.size x0 x) (hb : Below x.heap.size x y) :
    y.cell? ⟨z + 1, 0, none⟩ = some (.int .i64 K) ∧ y.cell? ⟨z, 0, none⟩ = some (.int .i64 N) ∧ y.cell? ⟨z + 1, 1, none⟩ = some (.int .i64 F) ∧ z + 2 ≤ y.heap.size ∧ Below x0.heap.size x0 y := by
  obtain ⟨h1, h2, h3, h4, h5⟩ := h
  have e0 : ∀ o, y.cell? ⟨z, o, none⟩ = x.cell? ⟨z, o, none⟩ := fun o => hb.cell (p := ⟨z, o, none⟩) (by show z < _; omega)
  have e1 : ∀ o, y.cell? ⟨z + 1, o, none⟩ = x.cell? ⟨z + 1, o, none⟩ := fun o => hb.cell (p := ⟨z + 1, o, none⟩) (by show z + 1 < _; omega)
  exact ⟨(e1 _).trans h1, (e0 _).trans h2, (e1 _).trans h3, Nat.le_trans h4 hb.size, bthen h5 hb⟩

theorem keep8 {z : Nat} {x0 x y : World} {O S Lw : Int} {body : ByteArray} (h : x.cell? ⟨z + 1, 2, none⟩ = some (.int .i64 O) ∧ x.cell? ⟨z + 1, 3, none⟩ = some (.int .i64 S) ∧ x.cell? ⟨z + 1, 4, none⟩ = some (.int .i64 Lw) ∧ x.cell? ⟨z + 1, 6, none⟩ = some (.string body) ∧ z + 2 ≤ x.heap.size ∧ Below x0.heap.size x0 x) (hb : Below x.heap.size x y) :
    y.cell? ⟨z + 1, 2, none⟩ = some (.int .i64 O) ∧ y.cell? ⟨z + 1, 3, none⟩ = some (.int .i64 S) ∧ y.cell? ⟨z + 1, 4, none⟩ = some (.int .i64 Lw) ∧ y.cell? ⟨z + 1, 6, none⟩ = some (.string body) ∧ z + 2 ≤ y.heap.size ∧ Below x0.heap.size x0 y := by
  obtain ⟨h1, h2, h3, h4, h5, h6⟩ := h
  have e1 : ∀ o, y.cell? ⟨z + 1, o, none⟩ = x.cell? ⟨z + 1, o, none⟩ := fun o => hb.cell (p := ⟨z + 1, o, none⟩) (by show z + 1 < _; omega)
  exact ⟨(e1 _).trans h1, (e1 _).trans h2, (e1 _).trans h3, (e1 _).trans h4, Nat.le_trans h5 hb.size, bthen h6 hb⟩

set_option maxRecDepth 100000 in
set_option maxHeartbeats 8000000 in
theorem refBytes_state (N W B L F O S Lw : Int) (ad : Option Addr) (len cap : Nat) (body : ByteArray) (vs : List Int) (w : World) (hi : Ints w ad len vs)
    (hN1 : 2 ≤ N) (hN2 : N ≤ 8) (hF1 : 0 ≤ F) (hF2 : F < N) (hlen : len ≤ 8) (hv : ∀ v ∈ vs, 0 ≤ v ∧ v ≤ 65535) (hbd : body.size = 0) :
    Calls Tryz.prog 173 #[.agg #[.int .i64 N, .int .i64 W, .int .i64 B, .int .i64 L], .agg #[.int .i64 2, .int .i64 F, .int .i64 O, .int .i64 S, .int .i64 Lw, .slice ad len cap, .string body]] w fun e w' => e = .returned (.string (txt (frameBytes N 2 F O S Lw vs body))) ∧ Below w.heap.size w w' := by
  have HI : Hid (Ints w ad len vs) := hi
  have HL : Hid (vs.length = len) := hi.len
  have HV : Hid (∀ v ∈ vs, 0 ≤ v ∧ v ≤ 65535) := hv
  have HBd : Hid (body.size = 0) := hbd
  clear hi hv hbd
  have HBX0 : Hid _ := boxes_start w N W B L 2 F O S Lw ad len cap body 26 45
  have B0 := below2 w (.cells #[.int .i64 N, .int .i64 W, .int .i64 B, .int .i64 L] 26) (.cells #[.int .i64 2, .int .i64 F, .int .i64 O, .int .i64 S, .int .i64 Lw, .slice ad len cap, .string body] 45)
  have HB0 : Hid _ := B0
  clear B0
  have hlen8 : (len : Int) ≤ 8 := by omega
  go_enter Tryz.func173, Tryz.ntmps173
  go_wp2
  go_loopw [5, 6] (fun s c wr => ∃ k : Nat, k ≤ len ∧ c = .int .i64 k ∧ s = .string (txt (vecBytes (vs.take k))) ∧ Below w.heap.size w wr ∧ Boxes w.heap.size wr N W B L 2 F O S Lw ad len cap body) (fun _ c _ => len - (intOf c).toNat)
  case atStart => exact ⟨0, Nat.zero_le _, rfl, rfl, HB0.out, HBX0.out⟩
  case round =>
    obtain ⟨k, hk, rfl, rfl, hbel, BXr⟩ := hrel
    have HB : Hid (Below w.heap.size w wr) := hbel
    have HBXr : Hid _ := BXr
    clear hbel
    obtain ⟨cN, cW, cB, cL, cK, cF, cO, cS, cLw, cV, cT, cz⟩ := BXr
    have hsl : (txt (vecBytes (vs.take k))).size ≤ 16 := by rw [txt_size, vecBytes_length]; have := List.length_take_le k vs; omega
    by_cases hlt : k < len
    · obtain ⟨b, off, rfl, hbl, hcell⟩ := (HI.out.below HB.out).cell k hlt
      obtain ⟨x, hx⟩ : ∃ x, x = vs.getD k 0 := ⟨_, rfl⟩
      rw [← hx] at hcell
      have HX : Hid (x = vs.getD k 0) := hx
      clear hx
      have hxb := vec_bd HV.out (by rw [HL.out]; exact hlt) HX.out
      obtain ⟨hx0, hx1⟩ := hxb
      go_wp2_with fail
      refine (refNumber_int x 2 2 rfl _ hx0 (by omega) (by omega)).mono ?_
      rintro e w6 ⟨rfl, hb6⟩
      have HB6 : Hid _ := hb6
      clear hb6
      have hsn := txt_num_size x.toNat 2
      go_wp2
      go_roundw
      case rel => exact ⟨k + 1, by omega, by go_num, by rw [vec_step (by rw [HL.out]; exact hlt) HX.out, ← txt_append], bthen HB.out HB6.out, HBXr.out.below HB6.out cz⟩
      case measure => simp [intOf]; omega
    · have HVs : Hid (vs.take k = vs) := List.take_of_length_le (by rw [HL.out]; omega)
      rw [HVs.out] at hsl ⊢
      have hsn := txt_num_size
      have htl : (txt (vecBytes vs)).size ≤ 16 := hsl
      clear hsl
      go_wp2
      go_region_held3 (fun w' => w'.cell? ⟨w.heap.size + 1, 0, none⟩ = some (.int .i64 2) ∧ w'.cell? ⟨w.heap.size, 0, none⟩ = some (.int .i64 N) ∧ w'.cell? ⟨w.heap.size + 1, 1, none⟩ = some (.int .i64 F) ∧ w.heap.size + 2 ≤ w'.heap.size ∧ Below wr.heap.size wr w') (first | (exact keep6 (by assumption) (by assumption)) | (exact ⟨cK, cN, cF, cz, (Below.refl _ _).drew⟩))
        (first | (go_at_call 178; refine (refNumber_int _ 1 1 rfl _ (by omega) (by omega) (by omega)).mono ?_; rintro e w' ⟨rfl, hb⟩))
      rename_i hHeld
      have HQ : Hid (Below wr.heap.size wr w') := hHeld.2.2.2.2
      clear hHeld
      have BXq := HBXr.out.below HQ.out cz
      clear cN cW cB cL cK cF cO cS cLw cV cT cz
      obtain ⟨cN, cW, cB, cL, cK, cF, cO, cS, cLw, cV, cT, cz⟩ := BXq
      have hstr : (({ data := #[104, 115] } : ByteArray) ++ txt (num 2 1) ++ txt (num N.toNat 1) ++ txt (num F.toNat 1)) = txt ([104, 115, 2, UInt8.ofNat N.toNat, UInt8.ofNat F.toNat]) := by
        rw [show ({ data := #[104, 115] } : ByteArray) = txt [104, 115] from rfl, txt_append, txt_append, txt_append]
        simp [num]
      rw [hstr]
      clear hstr
      have hs5 : (txt [104, 115, 2, UInt8.ofNat N.toNat, UInt8.ofNat F.toNat]).size = 5 := rfl
      have hhd : Hid (headBytes N 2 F O S Lw vs body.size ++ body.data.toList = [104, 115, 2, UInt8.ofNat N.toNat, UInt8.ofNat F.toNat] ++ vecBytes vs) := by
        have hbn : body.data.toList = [] := List.eq_nil_of_length_eq_zero (by rw [Array.length_toList]; exact HBd.out)
        show _ = _
        rw [hbn]
        simp [headBytes]
      go_wp2_with fail
      rw [txt_append]
      obtain ⟨pre, hpre⟩ : ∃ pre, pre = [104, 115, 2, UInt8.ofNat N.toNat, UInt8.ofNat F.toNat] ++ vecBytes vs := ⟨_, rfl⟩
      have hps : (txt pre).size ≤ 21 := by rw [hpre, txt_size, List.length_append, vecBytes_length, HL.out]; simp; omega
      have HFB : Hid (frameBytes N 2 F O S Lw vs body = pre ++ num (Crc.sum pre) 4) := by
        show _ = _
        unfold frameBytes; rw [hhd.out, hpre]
      rw [← hpre]
      clear hpre hhd hs5
      refine (refSum_any _ _ (by unfold maxLen; omega)).mono ?_
      rintro e w7 ⟨rfl, rfl⟩
      rw [txt_data]
      have hsm := Crc.sum_lt pre
      generalize hgs : Crc.sum pre = sm at *
      clear hgs
      go_wp2_with fail
      refine (refNumber_int (sm : Int) 4 4 rfl _ (by omega) (by omega) (by omega)).mono ?_
      rintro e w8 ⟨rfl, hb8⟩
      rw [Int.toNat_natCast]
      have HB8 : Hid _ := hb8
      clear hb8
      go_wp2
      go_ret
      rw [HFB.out, ← txt_append]
      exact ⟨rfl, bthen (bthen HB.out HQ.out) HB8.out⟩

set_option maxRecDepth 100000 in
set_option maxHeartbeats 8000000 in
theorem refBytes_data (N W B L F O S Lw : Int) (ad : Option Addr) (len cap : Nat) (body : ByteArray) (vs : List Int) (w : World) (hi : Ints w ad len vs)
    (hN1 : 2 ≤ N) (hN2 : N ≤ 8) (hF1 : 0 ≤ F) (hF2 : F < N) (hO1 : 0 ≤ O) (hO2 : O < N) (hS1 : 1 ≤ S) (hS2 : S ≤ 65535) (hL1 : 0 ≤ Lw) (hL2 : Lw < S) (hlen : len ≤ 8) (hv : ∀ v ∈ vs, 0 ≤ v ∧ v ≤ 65535) (hbd : body.size ≤ 40) :
    Calls Tryz.prog 173 #[.agg #[.int .i64 N, .int .i64 W, .int .i64 B, .int .i64 L], .agg #[.int .i64 1, .int .i64 F, .int .i64 O, .int .i64 S, .int .i64 Lw, .slice ad len cap, .string body]] w fun e w' => e = .returned (.string (txt (frameBytes N 1 F O S Lw vs body))) ∧ Below w.heap.size w w' := by
  have HI : Hid (Ints w ad len vs) := hi
  have HL : Hid (vs.length = len) := hi.len
  have HV : Hid (∀ v ∈ vs, 0 ≤ v ∧ v ≤ 65535) := hv
  clear hi hv
  have HBX0 : Hid _ := boxes_start w N W B L 1 F O S Lw ad len cap body 26 45
  have B0 := below2 w (.cells #[.int .i64 N, .int .i64 W, .int .i64 B, .int .i64 L] 26) (.cells #[.int .i64 1, .int .i64 F, .int .i64 O, .int .i64 S, .int .i64 Lw, .slice ad len cap, .string body] 45)
  have HB0 : Hid _ := B0
  clear B0
  have hlen8 : (len : Int) ≤ 8 := by omega
  go_enter Tryz.func173, Tryz.ntmps173
  go_wp2
  go_loopw [5, 6] (fun s c wr => ∃ k : Nat, k ≤ len ∧ c = .int .i64 k ∧ s = .string (txt (vecBytes (vs.take k))) ∧ Below w.heap.size w wr ∧ Boxes w.heap.size wr N W B L 1 F O S Lw ad len cap body) (fun _ c _ => len - (intOf c).toNat)
  case atStart => exact ⟨0, Nat.zero_le _, rfl, rfl, HB0.out, HBX0.out⟩
  case round =>
    obtain ⟨k, hk, rfl, rfl, hbel, BXr⟩ := hrel
    have HB : Hid (Below w.heap.size w wr) := hbel
    have HBXr : Hid _ := BXr
    clear hbel
    obtain ⟨cN, cW, cB, cL, cK, cF, cO, cS, cLw, cV, cT, cz⟩ := BXr
    have hsl : (txt (vecBytes (vs.take k))).size ≤ 16 := by rw [txt_size, vecBytes_length]; have := List.length_take_le k vs; omega
    by_cases hlt : k < len
    · obtain ⟨b, off, rfl, hbl, hcell⟩ := (HI.out.below HB.out).cell k hlt
      obtain ⟨x, hx⟩ : ∃ x, x = vs.getD k 0 := ⟨_, rfl⟩
      rw [← hx] at hcell
      have HX : Hid (x = vs.getD k 0) := hx
      clear hx
      have hxb := vec_bd HV.out (by rw [HL.out]; exact hlt) HX.out
      obtain ⟨hx0, hx1⟩ := hxb
      go_wp2_with fail
      refine (refNumber_int x 2 2 rfl _ hx0 (by omega) (by omega)).mono ?_
      rintro e w6 ⟨rfl, hb6⟩
      have HB6 : Hid _ := hb6
      clear hb6
      have hsn := txt_num_size x.toNat 2
      go_wp2
      go_roundw
      case rel => exact ⟨k + 1, by omega, by go_num, by rw [vec_step (by rw [HL.out]; exact hlt) HX.out, ← txt_append], bthen HB.out HB6.out, HBXr.out.below HB6.out cz⟩
      case measure => simp [intOf]; omega
    · have HVs : Hid (vs.take k = vs) := List.take_of_length_le (by rw [HL.out]; omega)
      rw [HVs.out] at hsl ⊢
      have hsn := txt_num_size
      have htl : (txt (vecBytes vs)).size ≤ 16 := hsl
      clear hsl
      go_wp2
      go_region_held3 (fun w' => w'.cell? ⟨w.heap.size + 1, 0, none⟩ = some (.int .i64 1) ∧ w'.cell? ⟨w.heap.size, 0, none⟩ = some (.int .i64 N) ∧ w'.cell? ⟨w.heap.size + 1, 1, none⟩ = some (.int .i64 F) ∧ w.heap.size + 2 ≤ w'.heap.size ∧ Below wr.heap.size wr w') (first | (exact keep6 (by assumption) (by assumption)) | (exact ⟨cK, cN, cF, cz, (Below.refl _ _).drew⟩))
        (first | (go_at_call 178; refine (refNumber_int _ 1 1 rfl _ (by omega) (by omega) (by omega)).mono ?_; rintro e w' ⟨rfl, hb⟩))
      rename_i hHeld
      have HQ : Hid (Below wr.heap.size wr w') := hHeld.2.2.2.2
      clear hHeld
      have HQB : Hid (Below w.heap.size w w') := bthen HB.out HQ.out
      obtain ⟨wq, hwq⟩ : ∃ wq, wq = w' := ⟨_, rfl⟩
      rw [← hwq]
      rw [← hwq] at HQ HQB
      clear hwq
      have BXq := HBXr.out.below HQ.out cz
      have HBXq : Hid _ := BXq
      clear cN cW cB cL cK cF cO cS cLw cV cT cz
      obtain ⟨cN, cW, cB, cL, cK, cF, cO, cS, cLw, cV, cT, cz⟩ := BXq
      have hstr : (({ data := #[104, 115] } : ByteArray) ++ txt (num 1 1) ++ txt (num N.toNat 1) ++ txt (num F.toNat 1)) = txt ([104, 115, 1, UInt8.ofNat N.toNat, UInt8.ofNat F.toNat]) := by
        rw [show ({ data := #[104, 115] } : ByteArray) = txt [104, 115] from rfl, txt_append, txt_append, txt_append]
        simp [num]
      rw [hstr]
      clear hstr
      obtain ⟨p5, hp5⟩ : ∃ p5, p5 = [104, 115, 1, UInt8.ofNat N.toNat, UInt8.ofNat F.toNat] := ⟨_, rfl⟩
      have hs5 : (txt p5).size = 5 := by rw [hp5]; rfl
      rw [← hp5]
      have HP5 : Hid (p5 = [104, 115, 1, UInt8.ofNat N.toNat, UInt8.ofNat F.toNat]) := hp5
      clear hp5
      obtain ⟨vb, hvb⟩ : ∃ vb, vb = txt (vecBytes vs) := ⟨_, rfl⟩
      rw [← hvb] at htl ⊢
      have HVB : Hid (vb = txt (vecBytes vs)) := hvb
      clear hvb
      have m1 : (9223372036854775807 < 10 + vb.size) = False := eq_false (by omega)
      have m2 : (9223372036854775807 < 10 + vb.size + 1) = False := eq_false (by omega)
      have m3 : (9223372036854775807 < 10 + vb.size + 1 + body.size) = False := eq_false (by omega)
      go_wp2
      go_region_held3 (fun w' => w'.cell? ⟨w.heap.size + 1, 2, none⟩ = some (.int .i64 O) ∧ w'.cell? ⟨w.heap.size + 1, 3, none⟩ = some (.int .i64 S) ∧ w'.cell? ⟨w.heap.size + 1, 4, none⟩ = some (.int .i64 Lw) ∧ w'.cell? ⟨w.heap.size + 1, 6, none⟩ = some (.string body) ∧ w.heap.size + 2 ≤ w'.heap.size ∧ Below wq.heap.size wq w') (first | (exact keep8 (by assumption) (by assumption)) | (exact ⟨cO, cS, cLw, cT, cz, (Below.refl _ _).drew⟩))
        (first | (go_at_call_of 178 (Value.int IntKind.i64 2); refine (refNumber_int _ 2 2 rfl _ (by omega) (by omega) (by omega)).mono ?_; rintro e w' ⟨rfl, hb⟩) | (go_at_call 178; refine (refNumber_int _ 1 1 rfl _ (by omega) (by omega) (by omega)).mono ?_; rintro e w' ⟨rfl, hb⟩))
      rename_i hHeld
      have HQ8 : Hid (Below wq.heap.size wq w') := hHeld.2.2.2.2.2
      clear hHeld
      obtain ⟨pre, hpre⟩ : ∃ pre, pre = p5 ++ num O.toNat 1 ++ num S.toNat 2 ++ num Lw.toNat 2 ++ vecBytes vs ++ num body.size 1 ++ body.data.toList := ⟨_, rfl⟩
      have hbt : body = txt body.data.toList := by simp [txt]
      have hstr : (txt p5 ++ txt (num O.toNat 1) ++ txt (num S.toNat 2) ++ txt (num Lw.toNat 2) ++ vb ++ txt (num body.size 1) ++ body) = txt pre := by
        rw [hpre, HVB.out]
        conv => lhs; rhs; rw [hbt]
        rw [txt_append, txt_append, txt_append, txt_append, txt_append, txt_append]
      have hps : (txt pre).size ≤ 67 := by
        rw [hpre, txt_size]
        have e1 : p5.length = 5 := by rw [← txt_size]; exact hs5
        have e2 := vecBytes_length vs
        have e3 := HL.out
        simp only [List.length_append, num_length, Array.length_toList, e1, e2]
        show _ + body.size ≤ 67
        omega
      have HFB : Hid (frameBytes N 1 F O S Lw vs body = pre ++ num (Crc.sum pre) 4) := by
        have e : headBytes N 1 F O S Lw vs body.size ++ body.data.toList = pre := by
          rw [hpre, HP5.out]
          simp [headBytes, num]
        show _ = _
        unfold frameBytes; rw [e]
      rw [hstr]
      clear hstr hbt hpre m1 m2 m3 hs5 cN cW cB cL cK cF cO cS cLw cV cT cz
      go_wp2_with fail
      refine (refSum_any _ _ (by unfold maxLen; omega)).mono ?_
      rintro e w7 ⟨rfl, rfl⟩
      rw [txt_data]
      have hsm := Crc.sum_lt pre
      generalize hgs : Crc.sum pre = sm at *
      clear hgs
      go_wp2_with fail
      refine (refNumber_int (sm : Int) 4 4 rfl _ (by omega) (by omega) (by omega)).mono ?_
      rintro e w8 ⟨rfl, hb8⟩
      rw [Int.toNat_natCast]
      have HB8 : Hid _ := hb8
      clear hb8
      go_wp2
      go_ret
      rw [HFB.out, ← txt_append]
      exact ⟨rfl, bthen (bthen HQB.out HQ8.out) HB8.out⟩

theorem refBytes_fits (N W B L K F O S Lw : Int) (ad : Option Addr) (len cap : Nat) (body : ByteArray) (vs : List Int) (w : World) (hi : Ints w ad len vs) (hG : okG N W B L = true) (hf : Fits N W B L K F O S Lw vs body) :
    Calls Tryz.prog 173 #[.agg #[.int .i64 N, .int .i64 W, .int .i64 B, .int .i64 L], .agg #[.int .i64 K, .int .i64 F, .int .i64 O, .int .i64 S, .int .i64 Lw, .slice ad len cap, .string body]] w fun e w' => e = .returned (.string (txt (frameBytes N K F O S Lw vs body))) ∧ Below w.heap.size w w' := by
  obtain ⟨h1, h2, h3, h4, h5, h6, h7, h8⟩ := okG_iff.1 hG
  have hlen := hf.len
  have hl := hi.len
  have hv : ∀ v ∈ vs, 0 ≤ v ∧ v ≤ 65535 := fun v hv => by have := hf.vec v hv; omega
  have f0 := hf.from0
  have f1 := hf.from1
  rcases hf.kind with ⟨rfl, o, sq, lw, bd⟩ | ⟨rfl, o0, o1, s1, s2, l0, l1, l2, hv2, bd⟩
  · exact refBytes_state N W B L F O S Lw ad len cap body vs w hi h1 h2 f0 f1 (by omega) hv bd
  · exact refBytes_data N W B L F O S Lw ad len cap body vs w hi h1 h2 f0 f1 o0 o1 s1 (by omega) l0 l1 (by omega) hv (by omega)

set_option maxRecDepth 100000 in
set_option maxHeartbeats 4000000 in
theorem refEncode_any (N W B L K F O S Lw : Int) (ad : Option Addr) (len cap : Nat) (body : ByteArray) (vs : List Int) (w : World) (hi : Ints w ad len vs) (hl : len ≤ maxLen) (hbd : body.size ≤ maxLen) :
    Calls Tryz.prog 162 #[.agg #[.int .i64 N, .int .i64 W, .int .i64 B, .int .i64 L], .agg #[.int .i64 K, .int .i64 F, .int .i64 O, .int .i64 S, .int .i64 Lw, .slice ad len cap, .string body]] w fun e w' => e = .returned (.tuple #[.string (txt (encR N W B L K F O S Lw vs body).1), .int .i64 (encR N W B L K F O S Lw vs body).2]) ∧ Below w.heap.size w w' := by
  have HI : Hid (Ints w ad len vs) := hi
  have HLm : Hid (len ≤ maxLen) := hl
  have HBd : Hid (body.size ≤ maxLen) := hbd
  clear hi hl hbd
  have HBX0 : Hid _ := boxes_start w N W B L K F O S Lw ad len cap body 26 45
  go_enter Tryz.func162, Tryz.ntmps162
  go_wp2_with fail
  refine (refCheck_any N W B L _).mono ?_
  rintro e w1 ⟨rfl, hb⟩
  have HB : Hid _ := hb
  have BX1 := HBX0.out.below hb (by simp)
  have HBX1 : Hid _ := BX1
  obtain ⟨cN, cW, cB, cL, cK, cF, cO, cS, cLw, cV, cT, cz⟩ := BX1
  clear hb
  by_cases hG : okG N W B L = true
  · have HG : Hid (okG N W B L = true) := hG
    rw [if_pos hG]
    clear hG
    have HI1 : Hid (Ints w1 ad len vs) := ((HI.out.alloc _).alloc _).below HB.out
    go_wp2_with fail
    refine (framed_any N W B L K F O S Lw ad len cap body vs _ HI1.out HG.out HLm.out HBd.out).mono ?_
    rintro e w2 ⟨⟨b, rfl, hbb⟩, hb2⟩
    have HB2 : Hid _ := hb2
    have BX2 := HBX1.out.below hb2 cz
    clear cN cW cB cL cK cF cO cS cLw cV cT cz hb2
    obtain ⟨cN, cW, cB, cL, cK, cF, cO, cS, cLw, cV, cT, cz⟩ := BX2
    cases b with
    | false =>
      have HE : Hid (encR N W B L K F O S Lw vs body = ([], 5)) := by
        show encR N W B L K F O S Lw vs body = _
        unfold encR
        rw [if_pos HG.out, if_neg (fun h => by have := hbb.2 (fits_of h); cases this)]
      clear hbb
      go_wp2
      go_ret2
      rw [HE.out]
      exact ⟨rfl, bthen (bthen (below2 _ _ _) HB.out) HB2.out⟩
    | true =>
      have HF : Hid (Fits N W B L K F O S Lw vs body) := hbb.1 rfl
      have HE : Hid (encR N W B L K F O S Lw vs body = (frameBytes N K F O S Lw vs body, 0)) := by
        show encR N W B L K F O S Lw vs body = _
        unfold encR
        rw [if_pos HG.out, if_pos (of_fits HF.out)]
      clear hbb
      go_wp2_with fail
      refine (refBytes_fits N W B L K F O S Lw ad len cap body vs _ (HI1.out.below HB2.out) HG.out HF.out).mono ?_
      rintro e w3 ⟨rfl, hb3⟩
      have HB3 : Hid _ := hb3
      clear hb3
      go_wp2
      go_ret2
      rw [HE.out]
      exact ⟨rfl, bthen (bthen (bthen (below2 _ _ _) HB.out) HB2.out) HB3.out⟩
  · have HE : Hid (encR N W B L K F O S Lw vs body = ([], 1)) := by show encR N W B L K F O S Lw vs body = _; unfold encR; rw [if_neg hG]
    rw [if_neg hG]
    clear hG
    go_wp2
    go_ret2
    rw [HE.out]
    exact ⟨rfl, bthen (below2 _ _ _) HB.out⟩
end Go.Proofs.YtabecbjfamphbaaGreatDoor
