/-
  Texts that the proof needs, joined: RefEnc, Lent, Seal, RVec, RoomP.
-/
import Derived.Test.YtabecbjfamphbaaGreatDoorS13
import Derived.Deep.RegionHeld3
import Derived.Test.YtabecbjfamphbaaGreatDoorS04
import Derived.Laws.CopyOwn
import Derived.Test.YtabecbjfamphbaaGreatDoorS12
import Derived.Deep.QuietTactic
import Derived.BigQuiet
import Derived.Deep.RegionWith
/- The reference's bytes and Encode. -/
namespace Go.Proofs.YtabecbjfamphbaaGreatDoor
open Go.RowKit Go.Stop Go.Extern

theorem refNumber_int (x n' : Int) (n : Nat) (hn' : n' = (n : Int)) (w : World) (hx0 : 0 ≤ x) (hx : x < 4611686018427387904) (hn : n ≤ 8) :
    Calls Tryz.prog 178 #[.int .i64 x, .int .i64 n'] w fun e w' => e = .returned (.string (txt (num x.toNat n))) ∧ Below w.heap.size w w' := by
  subst hn'
  obtain ⟨y, rfl⟩ := Int.eq_ofNat_of_zero_le hx0
  exact refNumber_any y n w (by omega) hn
theorem txt_num_size (x n : Nat) : (txt (num x n)).size = n := by rw [txt_size, num_length]
theorem keep6 {z : Nat} {x0 x y : World} {N K F : Int} (h : x.cell? ⟨z + 1, 0, none⟩ = some (.int .i64 K) ∧ x.cell? ⟨z, 0, none⟩ = some (.int .i64 N) ∧ x.cell? ⟨z + 1, 1, none⟩ = some (.int .i64 F) ∧ z + 2 ≤ x.heap.size ∧ Below x0.heap.size x0 x) (hb : Below x.heap.size x y) :
    y.cell? ⟨z + 1, 0, none⟩ = some (.int .i64 K) ∧ y.cell? ⟨z, 0, none⟩ = some (.int .i64 N) ∧ y.cell? ⟨z + 1, 1, none⟩ = some (.int .i64 F) ∧ z + 2 ≤ y.heap.size ∧ Below x0.heap.size x0 y := by
  obtain ⟨h1, h2, h3, h4, h5⟩ := h
  have e0 : ∀ o, y.cell? ⟨z, o, none⟩ = x.cell? ⟨z, o, none⟩ := fun o => hb.cell (p := ⟨z, o, none⟩) (by show z < _; omega)
  have e1 : ∀ o, y.cell? ⟨z + 1, o, none⟩ = x.cell? ⟨z + 1, o, none⟩ := fun o => hb.cell (p := ⟨z + 1, o, none⟩) (by show z + 1 < _; omega)
  exact ⟨(e1 _).trans h1, (e0 _).trans h2, (e1 _).trans h3, Nat.le_trans h4 hb.size, bthen h5 hb⟩

theorem keep8 {z : Nat} {x0 x y : World} {O S Lw : Int} {body : ByteArray} (h : x.cell? ⟨z + 1, 2, none⟩ = some (.int .i64 O) ∧ x.cell? ⟨z + 1, 3, none⟩ = some (.int .i64 S) ∧ x.cell? ⟨z + 1, 4, none⟩ = some (.int .i64 Lw) ∧ x.cell? ⟨z + 1, 6, none⟩ = some (.string body) ∧ z + 2 ≤ x.heap.size ∧ Below x0.heap.size x0 x) (hb : Below x.heap.size x y) :
    y.cell? ⟨z + 1, 2, none⟩ = some (.int .i64 O) ∧ y.cell? ⟨z + 1, 3, none⟩ = some (.int .i64 S) ∧ y.cell? ⟨z + 1, 4, none⟩ = some (.int .i64 Lw) ∧ y.cell? ⟨z + 1, 6, none⟩ = some (.string body) ∧ z + 2 ≤ y.heap.size ∧ Below x0.heap.size x0 y := by
  obtain ⟨h1, h2, h3, h4, h5, h6⟩ := h
  have e1 : ∀ o, y.cell? ⟨z + 1, o, none⟩ = x.cell? ⟨z + 1, o, none⟩ := fun o => hb.cell (p := ⟨z + 1, o, none⟩) (by show z + 1 < _; omega)
  exact ⟨(e1 _).trans h1, (e1 _).trans h2, (e1 _).trans h3, (e1 _).trans h4, Nat.le_trans h5 hb.size, bthen h6 hb⟩

set_option maxRecDepth 100000 in
set_option maxHeartbeats 8000000 in
theorem refBytes_state (N W B L F O S Lw : Int) (ad : Option Addr) (len cap : Nat) (body : ByteArray) (vs : List Int) (w : World) (hi : Ints w ad len vs)
    (hN1 : 2 ≤ N) (hN2 : N ≤ 8) (hF1 : 0 ≤ F) (hF2 : F < N) (hlen : len ≤ 8) (hv : ∀ v ∈ vs, 0 ≤ v ∧ v ≤ 65535) (hbd : body.size = 0) :
    Calls Tryz.prog 173 #[.agg #[.int .i64 N, .int .i64 W, .int .i64 B, .int .i64 L], .agg #[.int .i64 2, .int .i64 F, .int .i64 O, .int .i64 S, .int .i64 Lw, .slice ad len cap, .string body]] w fun e w' => e = .returned (.string (txt (frameBytes N 2 F O S Lw vs body))) ∧ Below w.heap.size w w' := by
  have HI : Hid (Ints w ad len vs) := hi
  have HL : Hid (vs.length = len) := hi.len
  have HV : Hid (∀ v ∈ vs, 0 ≤ v ∧ v ≤ 65535) := hv
  have HBd : Hid (body.size = 0) := hbd
  clear hi hv hbd
  have HBX0 : Hid _ := boxes_start w N W B L 2 F O S Lw ad len cap body 26 45
  have B0 := below2 w (.cells #[.int .i64 N, .int .i64 W, .int .i64 B, .int .i64 L] 26) (.cells #[.int .i64 2, .int .i64 F, .int .i64 O, .int .i64 S, .int .i64 Lw, .slice ad len cap, .string body] 45)
  have HB0 : Hid _ := B0
  clear B0
  have hlen8 : (len : Int) ≤ 8 := by omega
  go_enter Tryz.func173, Tryz.ntmps173
  go_wp2
  go_loopw [5, 6] (fun s c wr => ∃ k : Nat, k ≤ len ∧ c = .int .i64 k ∧ s = .string (txt (vecBytes (vs.take k))) ∧ Below w.heap.size w wr ∧ Boxes w.heap.size wr N W B L 2 F O S Lw ad len cap body) (fun _ c _ => len - (intOf c).toNat)
  case atStart => exact ⟨0, Nat.zero_le _, rfl, rfl, HB0.out, HBX0.out⟩
  case round =>
    obtain ⟨k, hk, rfl, rfl, hbel, BXr⟩ := hrel
    have HB : Hid (Below w.heap.size w wr) := hbel
    have HBXr : Hid _ := BXr
    clear hbel
    obtain ⟨cN, cW, cB, cL, cK, cF, cO, cS, cLw, cV, cT, cz⟩ := BXr
    have hsl : (txt (vecBytes (vs.take k))).size ≤ 16 := by rw [txt_size, vecBytes_length]; have := List.length_take_le k vs; omega
    by_cases hlt : k < len
    · obtain ⟨b, off, rfl, hbl, hcell⟩ := (HI.out.below HB.out).cell k hlt
      obtain ⟨x, hx⟩ : ∃ x, x = vs.getD k 0 := ⟨_, rfl⟩
      rw [← hx] at hcell
      have HX : Hid (x = vs.getD k 0) := hx
      clear hx
      have hxb := vec_bd HV.out (by rw [HL.out]; exact hlt) HX.out
      obtain ⟨hx0, hx1⟩ := hxb
      go_wp2_with fail
      refine (refNumber_int x 2 2 rfl _ hx0 (by omega) (by omega)).mono ?_
      rintro e w6 ⟨rfl, hb6⟩
      have HB6 : Hid _ := hb6
      clear hb6
      have hsn := txt_num_size x.toNat 2
      go_wp2
      go_roundw
      case rel => exact ⟨k + 1, by omega, by go_num, by rw [vec_step (by rw [HL.out]; exact hlt) HX.out, ← txt_append], bthen HB.out HB6.out, HBXr.out.below HB6.out cz⟩
      case measure => simp [intOf]; omega
    · have HVs : Hid (vs.take k = vs) := List.take_of_length_le (by rw [HL.out]; omega)
      rw [HVs.out] at hsl ⊢
      have hsn := txt_num_size
      have htl : (txt (vecBytes vs)).size ≤ 16 := hsl
      clear hsl
      go_wp2
      go_region_held3 (fun w' => w'.cell? ⟨w.heap.size + 1, 0, none⟩ = some (.int .i64 2) ∧ w'.cell? ⟨w.heap.size, 0, none⟩ = some (.int .i64 N) ∧ w'.cell? ⟨w.heap.size + 1, 1, none⟩ = some (.int .i64 F) ∧ w.heap.size + 2 ≤ w'.heap.size ∧ Below wr.heap.size wr w') (first | (exact keep6 (by assumption) (by assumption)) | (exact ⟨cK, cN, cF, cz, (Below.refl _ _).drew⟩))
        (first | (go_at_call 178; refine (refNumber_int _ 1 1 rfl _ (by omega) (by omega) (by omega)).mono ?_; rintro e w' ⟨rfl, hb⟩))
      rename_i hHeld
      have HQ : Hid (Below wr.heap.size wr w') := hHeld.2.2.2.2
      clear hHeld
      have BXq := HBXr.out.below HQ.out cz
      clear cN cW cB cL cK cF cO cS cLw cV cT cz
      obtain ⟨cN, cW, cB, cL, cK, cF, cO, cS, cLw, cV, cT, cz⟩ := BXq
      have hstr : (({ data := #[104, 115] } : ByteArray) ++ txt (num 2 1) ++ txt (num N.toNat 1) ++ txt (num F.toNat 1)) = txt ([104, 115, 2, UInt8.ofNat N.toNat, UInt8.ofNat F.toNat]) := by
        rw [show ({ data := #[104, 115] } : ByteArray) = txt [104, 115] from rfl, txt_append, txt_append, txt_append]
        simp [num]
      rw [hstr]
      clear hstr
      have hs5 : (txt [104, 115, 2, UInt8.ofNat N.toNat, UInt8.ofNat F.toNat]).size = 5 := rfl
      have hhd : Hid (headBytes N 2 F O S Lw vs body.size ++ body.data.toList = [104, 115, 2, UInt8.ofNat N.toNat, UInt8.ofNat F.toNat] ++ vecBytes vs) := by
        have hbn : body.data.toList = [] := List.eq_nil_of_length_eq_zero (by rw [Array.length_toList]; exact HBd.out)
        show _ = _
        rw [hbn]
        simp [headBytes]
      go_wp2_with fail
      rw [txt_append]
      obtain ⟨pre, hpre⟩ : ∃ pre, pre = [104, 115, 2, UInt8.ofNat N.toNat, UInt8.ofNat F.toNat] ++ vecBytes vs := ⟨_, rfl⟩
      have hps : (txt pre).size ≤ 21 := by rw [hpre, txt_size, List.length_append, vecBytes_length, HL.out]; simp; omega
      have HFB : Hid (frameBytes N 2 F O S Lw vs body = pre ++ num (Crc.sum pre) 4) := by
        show _ = _
        unfold frameBytes; rw [hhd.out, hpre]
      rw [← hpre]
      clear hpre hhd hs5
      refine (refSum_any _ _ (by unfold maxLen; omega)).mono ?_
      rintro e w7 ⟨rfl, rfl⟩
      rw [txt_data]
      have hsm := Crc.sum_lt pre
      generalize hgs : Crc.sum pre = sm at *
      clear hgs
      go_wp2_with fail
      refine (refNumber_int (sm : Int) 4 4 rfl _ (by omega) (by omega) (by omega)).mono ?_
      rintro e w8 ⟨rfl, hb8⟩
      rw [Int.toNat_natCast]
      have HB8 : Hid _ := hb8
      clear hb8
      go_wp2
      go_ret
      rw [HFB.out, ← txt_append]
      exact ⟨rfl, bthen (bthen HB.out HQ.out) HB8.out⟩

set_option maxRecDepth 100000 in
set_option maxHeartbeats 8000000 in
theorem refBytes_data (N W B L F O S Lw : Int) (ad : Option Addr) (len cap : Nat) (body : ByteArray) (vs : List Int) (w : World) (hi : Ints w ad len vs)
    (hN1 : 2 ≤ N) (hN2 : N ≤ 8) (hF1 : 0 ≤ F) (hF2 : F < N) (hO1 : 0 ≤ O) (hO2 : O < N) (hS1 : 1 ≤ S) (hS2 : S ≤ 65535) (hL1 : 0 ≤ Lw) (hL2 : Lw < S) (hlen : len ≤ 8) (hv : ∀ v ∈ vs, 0 ≤ v ∧ v ≤ 65535) (hbd : body.size ≤ 40) :
    Calls Tryz.prog 173 #[.agg #[.int .i64 N, .int .i64 W, .int .i64 B, .int .i64 L], .agg #[.int .i64 1, .int .i64 F, .int .i64 O, .int .i64 S, .int .i64 Lw, .slice ad len cap, .string body]] w fun e w' => e = .returned (.string (txt (frameBytes N 1 F O S Lw vs body))) ∧ Below w.heap.size w w' := by
  have HI : Hid (Ints w ad len vs) := hi
  have HL : Hid (vs.length = len) := hi.len
  have HV : Hid (∀ v ∈ vs, 0 ≤ v ∧ v ≤ 65535) := hv
  clear hi hv
  have HBX0 : Hid _ := boxes_start w N W B L 1 F O S Lw ad len cap body 26 45
  have B0 := below2 w (.cells #[.int .i64 N, .int .i64 W, .int .i64 B, .int .i64 L] 26) (.cells #[.int .i64 1, .int .i64 F, .int .i64 O, .int .i64 S, .int .i64 Lw, .slice ad len cap, .string body] 45)
  have HB0 : Hid _ := B0
  clear B0
  have hlen8 : (len : Int) ≤ 8 := by omega
  go_enter Tryz.func173, Tryz.ntmps173
  go_wp2
  go_loopw [5, 6] (fun s c wr => ∃ k : Nat, k ≤ len ∧ c = .int .i64 k ∧ s = .string (txt (vecBytes (vs.take k))) ∧ Below w.heap.size w wr ∧ Boxes w.heap.size wr N W B L 1 F O S Lw ad len cap body) (fun _ c _ => len - (intOf c).toNat)
  case atStart => exact ⟨0, Nat.zero_le _, rfl, rfl, HB0.out, HBX0.out⟩
  case round =>
    obtain ⟨k, hk, rfl, rfl, hbel, BXr⟩ := hrel
    have HB : Hid (Below w.heap.size w wr) := hbel
    have HBXr : Hid _ := BXr
    clear hbel
    obtain ⟨cN, cW, cB, cL, cK, cF, cO, cS, cLw, cV, cT, cz⟩ := BXr
    have hsl : (txt (vecBytes (vs.take k))).size ≤ 16 := by rw [txt_size, vecBytes_length]; have := List.length_take_le k vs; omega
    by_cases hlt : k < len
    · obtain ⟨b, off, rfl, hbl, hcell⟩ := (HI.out.below HB.out).cell k hlt
      obtain ⟨x, hx⟩ : ∃ x, x = vs.getD k 0 := ⟨_, rfl⟩
      rw [← hx] at hcell
      have HX : Hid (x = vs.getD k 0) := hx
      clear hx
      have hxb := vec_bd HV.out (by rw [HL.out]; exact hlt) HX.out
      obtain ⟨hx0, hx1⟩ := hxb
      go_wp2_with fail
      refine (refNumber_int x 2 2 rfl _ hx0 (by omega) (by omega)).mono ?_
      rintro e w6 ⟨rfl, hb6⟩
      have HB6 : Hid _ := hb6
      clear hb6
      have hsn := txt_num_size x.toNat 2
      go_wp2
      go_roundw
      case rel => exact ⟨k + 1, by omega, by go_num, by rw [vec_step (by rw [HL.out]; exact hlt) HX.out, ← txt_append], bthen HB.out HB6.out, HBXr.out.below HB6.out cz⟩
      case measure => simp [intOf]; omega
    · have HVs : Hid (vs.take k = vs) := List.take_of_length_le (by rw [HL.out]; omega)
      rw [HVs.out] at hsl ⊢
      have hsn := txt_num_size
      have htl : (txt (vecBytes vs)).size ≤ 16 := hsl
      clear hsl
      go_wp2
      go_region_held3 (fun w' => w'.cell? ⟨w.heap.size + 1, 0, none⟩ = some (.int .i64 1) ∧ w'.cell? ⟨w.heap.size, 0, none⟩ = some (.int .i64 N) ∧ w'.cell? ⟨w.heap.size + 1, 1, none⟩ = some (.int .i64 F) ∧ w.heap.size + 2 ≤ w'.heap.size ∧ Below wr.heap.size wr w') (first | (exact keep6 (by assumption) (by assumption)) | (exact ⟨cK, cN, cF, cz, (Below.refl _ _).drew⟩))
        (first | (go_at_call 178; refine (refNumber_int _ 1 1 rfl _ (by omega) (by omega) (by omega)).mono ?_; rintro e w' ⟨rfl, hb⟩))
      rename_i hHeld
      have HQ : Hid (Below wr.heap.size wr w') := hHeld.2.2.2.2
      clear hHeld
      have HQB : Hid (Below w.heap.size w w') := bthen HB.out HQ.out
      obtain ⟨wq, hwq⟩ : ∃ wq, wq = w' := ⟨_, rfl⟩
      rw [← hwq]
      rw [← hwq] at HQ HQB
      clear hwq
      have BXq := HBXr.out.below HQ.out cz
      have HBXq : Hid _ := BXq
      clear cN cW cB cL cK cF cO cS cLw cV cT cz
      obtain ⟨cN, cW, cB, cL, cK, cF, cO, cS, cLw, cV, cT, cz⟩ := BXq
      have hstr : (({ data := #[104, 115] } : ByteArray) ++ txt (num 1 1) ++ txt (num N.toNat 1) ++ txt (num F.toNat 1)) = txt ([104, 115, 1, UInt8.ofNat N.toNat, UInt8.ofNat F.toNat]) := by
        rw [show ({ data := #[104, 115] } : ByteArray) = txt [104, 115] from rfl, txt_append, txt_append, txt_append]
        simp [num]
      rw [hstr]
      clear hstr
      obtain ⟨p5, hp5⟩ : ∃ p5, p5 = [104, 115, 1, UInt8.ofNat N.toNat, UInt8.ofNat F.toNat] := ⟨_, rfl⟩
      have hs5 : (txt p5).size = 5 := by rw [hp5]; rfl
      rw [← hp5]
      have HP5 : Hid (p5 = [104, 115, 1, UInt8.ofNat N.toNat, UInt8.ofNat F.toNat]) := hp5
      clear hp5
      obtain ⟨vb, hvb⟩ : ∃ vb, vb = txt (vecBytes vs) := ⟨_, rfl⟩
      rw [← hvb] at htl ⊢
      have HVB : Hid (vb = txt (vecBytes vs)) := hvb
      clear hvb
      have m1 : (9223372036854775807 < 10 + vb.size) = False := eq_false (by omega)
      have m2 : (9223372036854775807 < 10 + vb.size + 1) = False := eq_false (by omega)
      have m3 : (9223372036854775807 < 10 + vb.size + 1 + body.size) = False := eq_false (by omega)
      go_wp2
      go_region_held3 (fun w' => w'.cell? ⟨w.heap.size + 1, 2, none⟩ = some (.int .i64 O) ∧ w'.cell? ⟨w.heap.size + 1, 3, none⟩ = some (.int .i64 S) ∧ w'.cell? ⟨w.heap.size + 1, 4, none⟩ = some (.int .i64 Lw) ∧ w'.cell? ⟨w.heap.size + 1, 6, none⟩ = some (.string body) ∧ w.heap.size + 2 ≤ w'.heap.size ∧ Below wq.heap.size wq w') (first | (exact keep8 (by assumption) (by assumption)) | (exact ⟨cO, cS, cLw, cT, cz, (Below.refl _ _).drew⟩))
        (first | (go_at_call_of 178 (Value.int IntKind.i64 2); refine (refNumber_int _ 2 2 rfl _ (by omega) (by omega) (by omega)).mono ?_; rintro e w' ⟨rfl, hb⟩) | (go_at_call 178; refine (refNumber_int _ 1 1 rfl _ (by omega) (by omega) (by omega)).mono ?_; rintro e w' ⟨rfl, hb⟩))
      rename_i hHeld
      have HQ8 : Hid (Below wq.heap.size wq w') := hHeld.2.2.2.2.2
      clear hHeld
      obtain ⟨pre, hpre⟩ : ∃ pre, pre = p5 ++ num O.toNat 1 ++ num S.toNat 2 ++ num Lw.toNat 2 ++ vecBytes vs ++ num body.size 1 ++ body.data.toList := ⟨_, rfl⟩
      have hbt : body = txt body.data.toList := by simp [txt]
      have hstr : (txt p5 ++ txt (num O.toNat 1) ++ txt (num S.toNat 2) ++ txt (num Lw.toNat 2) ++ vb ++ txt (num body.size 1) ++ body) = txt pre := by
        rw [hpre, HVB.out]
        conv => lhs; rhs; rw [hbt]
        rw [txt_append, txt_append, txt_append, txt_append, txt_append, txt_append]
      have hps : (txt pre).size ≤ 67 := by
        rw [hpre, txt_size]
        have e1 : p5.length = 5 := by rw [← txt_size]; exact hs5
        have e2 := vecBytes_length vs
        have e3 := HL.out
        simp only [List.length_append, num_length, Array.length_toList, e1, e2]
        show _ + body.size ≤ 67
        omega
      have HFB : Hid (frameBytes N 1 F O S Lw vs body = pre ++ num (Crc.sum pre) 4) := by
        have e : headBytes N 1 F O S Lw vs body.size ++ body.data.toList = pre := by
          rw [hpre, HP5.out]
          simp [headBytes, num]
        show _ = _
        unfold frameBytes; rw [e]
      rw [hstr]
      clear hstr hbt hpre m1 m2 m3 hs5 cN cW cB cL cK cF cO cS cLw cV cT cz
      go_wp2_with fail
      refine (refSum_any _ _ (by unfold maxLen; omega)).mono ?_
      rintro e w7 ⟨rfl, rfl⟩
      rw [txt_data]
      have hsm := Crc.sum_lt pre
      generalize hgs : Crc.sum pre = sm at *
      clear hgs
      go_wp2_with fail
      refine (refNumber_int (sm : Int) 4 4 rfl _ (by omega) (by omega) (by omega)).mono ?_
      rintro e w8 ⟨rfl, hb8⟩
      rw [Int.toNat_natCast]
      have HB8 : Hid _ := hb8
      clear hb8
      go_wp2
      go_ret
      rw [HFB.out, ← txt_append]
      exact ⟨rfl, bthen (bthen HQB.out HQ8.out) HB8.out⟩

theorem refBytes_fits (N W B L K F O S Lw : Int) (ad : Option Addr) (len cap : Nat) (body : ByteArray) (vs : List Int) (w : World) (hi : Ints w ad len vs) (hG : okG N W B L = true) (hf : Fits N W B L K F O S Lw vs body) :
    Calls Tryz.prog 173 #[.agg #[.int .i64 N, .int .i64 W, .int .i64 B, .int .i64 L], .agg #[.int .i64 K, .int .i64 F, .int .i64 O, .int .i64 S, .int .i64 Lw, .slice ad len cap, .string body]] w fun e w' => e = .returned (.string (txt (frameBytes N K F O S Lw vs body))) ∧ Below w.heap.size w w' := by
  obtain ⟨h1, h2, h3, h4, h5, h6, h7, h8⟩ := okG_iff.1 hG
  have hlen := hf.len
  have hl := hi.len
  have hv : ∀ v ∈ vs, 0 ≤ v ∧ v ≤ 65535 := fun v hv => by have := hf.vec v hv; omega
  have f0 := hf.from0
  have f1 := hf.from1
  rcases hf.kind with ⟨rfl, o, sq, lw, bd⟩ | ⟨rfl, o0, o1, s1, s2, l0, l1, l2, hv2, bd⟩
  · exact refBytes_state N W B L F O S Lw ad len cap body vs w hi h1 h2 f0 f1 (by omega) hv bd
  · exact refBytes_data N W B L F O S Lw ad len cap body vs w hi h1 h2 f0 f1 o0 o1 s1 (by omega) l0 l1 (by omega) hv (by omega)

end Go.Proofs.YtabecbjfamphbaaGreatDoor

/- A list that is lent with spare room, and whether it is as it was: lentInts, wholeInts. -/
namespace Go.Proofs.YtabecbjfamphbaaGreatDoor
open Go.RowKit Go.Stop Go.Extern

theorem Tryz.infoInt : (Tryz.prog.info? 3).map (fun i => (i.zero, i.size, i.bytes)) = some (some (.int .i64 0), 1, 8) := by kernel_rfl
set_option maxHeartbeats 400000 in
theorem markInt_any (n : Int) (w : World) (h1 : 0 ≤ n) (h2 : n ≤ 1000000) :
    Calls Tryz.prog 133 #[.int .i64 n] w fun e w' => e = .returned (.int .i64 (-1000 - n)) ∧ w' = w := by
  go_enter Tryz.func133, Tryz.ntmps133
  go_wp2
  go_ret
  exact ⟨rfl, rfl⟩

theorem made_ints (n : Nat) : (madeCells #[Value.int .i64 0] n).toList = (List.replicate n (0 : Int)).map (Value.int .i64) := by
  apply List.ext_getElem
  · simp [madeCells]
  · intro i h1 h2
    simp [madeCells, Nat.mod_one]
theorem row_of_owns {w : World} {base g n : Nat} {zs : List Int} (h : w.ownsRow base 3 1 (.slice (some ⟨g, 0, none⟩) n n) n (zs.map (Value.int .i64))) : RowI w g zs := by
  rcases h.2 with ⟨h', _⟩ | ⟨g', cap', cur, h', _, hg, _, _, hcs, htake⟩
  · simp at h'
  · simp only [Value.slice.injEq, Option.some.injEq, Addr.mk.injEq, and_true, true_and] at h'
    obtain ⟨rfl, rfl⟩ := h'
    unfold RowI
    rw [← htake, List.take_of_length_le (by rw [Array.length_toList]; omega)]
    simpa using hg

/-- What lies in the lent list. -/
def lent (vs : List Int) (k : Nat) : List Int := vs ++ (List.replicate (k - vs.length) (-1007) ++ List.replicate (vs.length + 5 - k) 0)
/-- The lent list while the caller writes into it. -/
def whole (vs : List Int) (k : Nat) : List Int := List.replicate k (-1009) ++ (vs ++ List.replicate 5 (-1007)).drop k
end Go.Proofs.YtabecbjfamphbaaGreatDoor

/- checkSeal: what holds for every text that may be read further; readVector. -/
namespace Go.Proofs.YtabecbjfamphbaaGreatDoor
open Go.RowKit Go.Stop Go.Extern

theorem readNumber_int (s : ByteArray) (p' k' : Int) (p k : Nat) (hp' : p' = (p : Int)) (hk' : k' = (k : Int)) (w : World) (hs : s.size ≤ maxLen) (hk : k ≤ 4) (hp : p + k ≤ s.size) :
    Calls Tryz.prog 211 #[.string s, .int .i64 p', .int .i64 k'] w fun e w' => e = .returned (.int .i64 (val s p k)) ∧ w' = w := by
  subst hp' hk'
  exact readNumber_any s p k w hs hk hp
theorem refValue_int (s : ByteArray) (p' k' : Int) (p k : Nat) (hp' : p' = (p : Int)) (hk' : k' = (k : Int)) (w : World) (hs : s.size ≤ maxLen) (hk : k ≤ 4) (hp : p + k ≤ s.size) :
    Calls Tryz.prog 201 #[.string s, .int .i64 p', .int .i64 k'] w fun e w' => e = .returned (.int .i64 (val s p k)) ∧ w' = w := by
  subst hp' hk'
  exact refValue_any s p k w hs hk hp
/-- The sum of all bytes ahead of the last four. -/
def sumAhead (s : ByteArray) : Nat := Crc.sum (s.data.toList.take (s.size - 4))
theorem extract_take (s : ByteArray) (n : Nat) : (s.extract 0 n).data.toList = s.data.toList.take n := by
  rw [ByteArray.data_extract]
  simp
def rSeal (N : Int) (s : ByteArray) : Option (Option Int) :=
  if (s.size : Int) < 9 + 2 * N then some (some s.size) else if marked s = false then some (some 0) else if val s (s.size - 4) 4 ≠ sumAhead s then some (some ((s.size : Int) - 4)) else none

set_option maxRecDepth 100000 in
set_option maxHeartbeats 2000000 in
theorem checkSeal_any (a0 a1 : Addr) (N W B L : Int) (s : ByteArray) (w : World) (hw : Sent w a0 a1) (h1 : 2 ≤ N) (h2 : N ≤ 8) (hs : s.size ≤ maxLen) :
    Calls Tryz.prog 184 #[.agg #[.int .i64 N, .int .i64 W, .int .i64 B, .int .i64 L], .string s] w fun e w' => (∃ v, e = .returned v ∧ IsF a1 v (rSeal N s)) ∧ Below w.heap.size w w' := by
  have HW : Hid (Sent w a0 a1) := hw
  have HS : Hid (s.size ≤ maxLen) := hs
  unfold maxLen at hs
  clear hw
  go_enter Tryz.func184, Tryz.ntmps184
  go_wp2_with fail
  refine (leastState_any N W B L h1 h2 _).mono ?_
  rintro e w1 ⟨rfl, hb⟩
  have HB : Hid (Below w.heap.size w w1) := bthen (below1 _ _) hb
  clear hb
  by_cases c1 : (s.size : Int) < 9 + 2 * N
  · have HR : Hid (rSeal N s = some (some (s.size : Int))) := if_pos c1
    go_wp2_with (go_at_call 209; refine (refuseAt_any a0 a1 _ _ _ (HW.out.below HB.out)).mono ?_; rintro e w' ⟨rfl, rfl⟩)
    go_ret
    rw [HR.out]
    exact ⟨⟨_, rfl, IsF.at a1 _ _⟩, HB.out⟩
  · have hn : 13 ≤ s.size := by omega
    cases c2 : marked s with
    | false =>
      have HR : Hid (rSeal N s = some (some 0)) := by show rSeal N s = _; unfold rSeal; rw [if_neg c1, if_pos c2]
      have HM : Hid (marked s = false) := c2
      clear c2
      go_wp2_with fail
      refine (prefix_any s _ (by omega) HS.out).mono ?_
      rintro e w2 ⟨rfl, rfl⟩
      rw [HM.out]
      go_wp2_with (go_at_call 209; refine (refuseAt_any a0 a1 _ _ _ (HW.out.below HB.out)).mono ?_; rintro e w' ⟨rfl, rfl⟩)
      go_ret
      rw [HR.out]
      exact ⟨⟨_, rfl, IsF.at a1 _ _⟩, HB.out⟩
    | true =>
      have HM : Hid (marked s = true) := c2
      have HR : Hid (rSeal N s = if val s (s.size - 4) 4 ≠ sumAhead s then some (some ((s.size : Int) - 4)) else none) := by show rSeal N s = _; unfold rSeal; rw [if_neg c1, if_neg (by rw [c2]; simp)]
      clear c2
      go_wp2_with fail
      refine (prefix_any s _ (by omega) HS.out).mono ?_
      rintro e w2 ⟨rfl, rfl⟩
      rw [HM.out]
      have hi : (4 : Int) ≤ (s.size : Int) := by omega
      have HX : Hid (∀ w, Calls Tryz.prog 183 #[.string (s.extract 0 (s.size - 4))] w fun e w' => e = .returned (.int .i64 (sumAhead s)) ∧ w' = w) := fun w => by
        have := wireSum_any (s.extract 0 (s.size - 4)) w (by rw [ByteArray.size_extract]; have := HS.out; omega)
        rw [extract_take] at this
        exact this
      have HN : Hid (∀ w, Calls Tryz.prog 211 #[.string s, .int .i64 ((s.size : Int) - 4), .int .i64 4] w fun e w' => e = .returned (.int .i64 (val s (s.size - 4) 4)) ∧ w' = w) := fun w => readNumber_int s ((s.size : Int) - 4) 4 (s.size - 4) 4 (by omega) rfl w HS.out (by omega) (by omega)
      generalize val s (s.size - 4) 4 = x at *
      generalize sumAhead s = y at *
      by_cases c3 : x = y
      · subst c3
        have HRR : Hid (rSeal N s = none) := by have := HR.out; rw [if_neg (by simp)] at this; exact this
        clear HR
        go_wp2_with fail
        go_quiet ((first | (go_at_call 211; exact Calls.quiet_of_same (HN.out _)) | (go_at_call 183; exact Calls.quiet_of_same (HX.out _))))
        go_wp2
        go_ret
        rw [HRR.out]
        exact ⟨⟨_, rfl, IsF.nil a1⟩, below_drewN HB.out _⟩
      · have HRR : Hid (rSeal N s = some (some ((s.size : Int) - 4))) := by have := HR.out; rw [if_pos c3] at this; exact this
        have c3b : ((x : Int) != (y : Int)) = true := bne_iff_ne.2 (by omega)
        clear HR c3
        go_wp2_with fail
        go_quiet ((first | (go_at_call 211; exact Calls.quiet_of_same (HN.out _)) | (go_at_call 183; exact Calls.quiet_of_same (HX.out _))))
        go_wp2_with (go_at_call 209; refine (refuseAt_any a0 a1 _ _ _ (HW.out.below (below_drewN HB.out _))).mono ?_; rintro e w' ⟨rfl, rfl⟩)
        go_ret
        rw [HRR.out]
        exact ⟨⟨_, rfl, IsF.at a1 _ _⟩, below_drewN HB.out _⟩
end Go.Proofs.YtabecbjfamphbaaGreatDoor

/- readVector. -/
namespace Go.Proofs.YtabecbjfamphbaaGreatDoor
open Go.RowKit Go.Stop Go.Extern

/-- The vector that lies in a text from a place on. -/
def vecOf (s : ByteArray) (p n : Nat) : List Int := (List.range n).map fun q => (val s (p + 2 * q) 2 : Int)
theorem vecOf_length (s : ByteArray) (p n : Nat) : (vecOf s p n).length = n := by simp [vecOf]
theorem vecOf_succ (s : ByteArray) (p n : Nat) : vecOf s p (n + 1) = vecOf s p n ++ [(val s (p + 2 * n) 2 : Int)] := by simp [vecOf, List.range_succ]
theorem vecOf_get (s : ByteArray) (p n i : Nat) (h : i < n) : (vecOf s p n).getD i 0 = (val s (p + 2 * i) 2 : Int) := by
  simp [vecOf, List.getD_eq_getElem?_getD, h]
theorem row_set {s : ByteArray} {p n k : Nat} (h : k < n) : (vecOf s p k ++ List.replicate (n - k) 0).set k (val s (p + 2 * k) 2 : Int) = vecOf s p (k + 1) ++ List.replicate (n - (k + 1)) 0 := by
  obtain ⟨d, rfl⟩ : ∃ d, n = k + 1 + d := ⟨n - k - 1, by omega⟩
  rw [show k + 1 + d - k = d + 1 by omega, show k + 1 + d - (k + 1) = d by omega, List.replicate_succ, List.set_append_right _ _ (by simp [vecOf_length]), vecOf_length, Nat.sub_self, List.set_cons_zero, vecOf_succ, List.append_assoc]
  rfl

set_option maxRecDepth 100000 in
set_option maxHeartbeats 2000000 in
theorem readVector_any (n : Nat) (W B L : Int) (s : ByteArray) (p : Nat) (p' : Int) (hp' : p' = (p : Int)) (w : World) (h1 : 2 ≤ n) (h2 : n ≤ 8) (hs : s.size ≤ maxLen) (hp : p + 2 * n ≤ s.size) :
    Calls Tryz.prog 231 #[.agg #[.int .i64 (n : Int), .int .i64 W, .int .i64 B, .int .i64 L], .string s, .int .i64 p'] w fun e w' => e = .returned (.slice (some ⟨w.heap.size + 1, 0, none⟩) n n) ∧ RowI w' (w.heap.size + 1) (vecOf s p n) ∧ Below w.heap.size w w' := by
  subst hp'
  have HS : Hid (s.size ≤ maxLen) := hs
  unfold maxLen at hs
  obtain ⟨i0, hi, hz0, hz1, hz2⟩ := info_parts Tryz.infoInt
  go_enter Tryz.func231, Tryz.ntmps231
  go_wp2_with (at_make; refine wpList_make_full _ rfl (.tmp 10) (.tmp 10) 34 rfl (w.heap.size + 1) 3 i0 (.int .i64 0) 1 Tryz.underlying34 hi hz0 hz1 .i64 .i64 _ _ n rfl rfl ?m1 ?m2 ?m3 ?m4 ?m5 ?_)
  case m1 => rfl
  case m2 => rfl
  case m3 => rw [hz2]; omega
  case m4 => unfold maxLen; omega
  case m5 => simp
  intro w1 hown1 hgrow1
  rw [made_ints] at hown1
  have hr1 := row_of_owns hown1
  have HB1 : Hid (Below w.heap.size w w1) := (below1 _ _).trans (((Below.refl _ _).grown hgrow1 (Nat.le_refl _) (fun k hk => by cases hk)).mono (by simp))
  have hr2 : RowI w1 (w.heap.size + 1) (List.replicate n 0) := by simpa using hr1
  have HR1 : Hid (RowI w1 (w.heap.size + 1) (List.replicate n 0)) := hr2
  clear hown1 hgrow1 hr1 hr2
  go_wp2
  go_loopw [14] (fun c wr => ∃ k : Nat, k ≤ n ∧ c = .int .i64 k ∧ RowI wr (w.heap.size + 1) (vecOf s p k ++ List.replicate (n - k) 0) ∧ Below w.heap.size w wr) (fun c _ => n - (intOf c).toNat)
  case atStart => exact ⟨0, Nat.zero_le _, rfl, by simpa [vecOf] using HR1.out, HB1.out⟩
  case round =>
    obtain ⟨k, hk, rfl, hr, hb⟩ := hrel
    have HR : Hid (RowI wr (w.heap.size + 1) (vecOf s p k ++ List.replicate (n - k) 0)) := hr
    have HB : Hid (Below w.heap.size w wr) := hb
    clear hr hb
    by_cases hlt : k < n
    · have hc := HR.out.cell (j := k) (by simp [vecOf_length]; omega)
      have hf := HR.out.free k
      have HN : Hid (RowI (wr.setCell ⟨w.heap.size + 1, k, none⟩ (.int .i64 (val s (p + 2 * k) 2))) (w.heap.size + 1) (vecOf s p (k + 1) ++ List.replicate (n - (k + 1)) 0)) := by have := HR.out.set k (val s (p + 2 * k) 2 : Int); rw [row_set hlt] at this; exact this
      generalize hgz : (vecOf s p k ++ List.replicate (n - k) 0).getD k 0 = z at hc
      clear hgz
      have HX : Hid (∀ w, Calls Tryz.prog 211 #[.string s, .int .i64 ((p : Int) + 2 * (k : Int)), .int .i64 2] w fun e w' => e = .returned (.int .i64 (val s (p + 2 * k) 2)) ∧ w' = w) := fun w => readNumber_int s ((p : Int) + 2 * (k : Int)) 2 (p + 2 * k) 2 (by omega) rfl w HS.out (by omega) (by omega)
      generalize val s (p + 2 * k) 2 = y at *
      go_wp2_with (go_at_call 211; refine (HX.out _).mono ?_; rintro e w' ⟨rfl, rfl⟩)
      go_roundw
      case rel => exact ⟨k + 1, by omega, by go_num, HN.out, HB.out.setCell (by show w.heap.size ≤ w.heap.size + 1; omega) _⟩
      case measure => simp [intOf]; omega
    · have hr := HR.out
      have hkn : k = n := by omega
      rw [hkn, Nat.sub_self, List.replicate_zero, List.append_nil] at hr
      have HRn : Hid (RowI wr (w.heap.size + 1) (vecOf s p n)) := hr
      clear hr hkn
      go_wp2
      go_ret
      exact ⟨rfl, HRn.out, HB.out⟩
end Go.Proofs.YtabecbjfamphbaaGreatDoor

/- Rooms. -/
namespace Go.Proofs.YtabecbjfamphbaaGreatDoor
open Go.RowKit Go.Stop Go.Extern

/-- A frame's value, whatever it holds. -/
def FrV (fv : Value) : Prop := ∃ (K F O S Lw : Int) (ad : Option Addr) (len cap : Nat) (body : ByteArray), fv = .agg #[.int .i64 K, .int .i64 F, .int .i64 O, .int .i64 S, .int .i64 Lw, .slice ad len cap, .string body]
/-- A frame that was read: its vector lies in a block of its own. -/
structure Got (w' : World) (base n : Nat) (K F O S Lw : Int) (vs : List Int) (body : ByteArray) (fv : Value) : Prop where
  is : ∃ g, base ≤ g ∧ fv = .agg #[.int .i64 K, .int .i64 F, .int .i64 O, .int .i64 S, .int .i64 Lw, .slice (some ⟨g, 0, none⟩) n n, .string body] ∧ RowI w' g vs
def rState2 (n : Nat) (L : Int) (s : ByteArray) : Option (Option Int) := if (s.size : Int) = 9 + 2 * n then rVec n L 2 0 0 (vecOf s 5 n) else some (some s.size)

theorem below_set7 {B : Nat} {a w : World} (h : Below B a w) {b : Nat} (hb : B ≤ b) (v0 v1 v2 v3 v4 v5 v6 : Value) :
    Below B a (((((((w.setCell ⟨b, 0, none⟩ v0).setCell ⟨b, 1, none⟩ v1).setCell ⟨b, 2, none⟩ v2).setCell ⟨b, 3, none⟩ v3).setCell ⟨b, 4, none⟩ v4).setCell ⟨b, 5, none⟩ v5).setCell ⟨b, 6, none⟩ v6) :=
  ((((((h.setCell hb _).setCell hb _).setCell hb _).setCell hb _).setCell hb _).setCell hb _).setCell hb _
theorem RowI.other {w : World} {g : Nat} {zs : List Int} (h : RowI w g zs) (a : Addr) (v : Value) (hne : g ≠ a.block) : RowI (w.setCell a v) g zs := (heap_setCell_other w a g v hne).trans h
theorem RowI.set7 {w : World} {g : Nat} {zs : List Int} (h : RowI w g zs) {b : Nat} (hne : g ≠ b) (v0 v1 v2 v3 v4 v5 v6 : Value) :
    RowI (((((((w.setCell ⟨b, 0, none⟩ v0).setCell ⟨b, 1, none⟩ v1).setCell ⟨b, 2, none⟩ v2).setCell ⟨b, 3, none⟩ v3).setCell ⟨b, 4, none⟩ v4).setCell ⟨b, 5, none⟩ v5).setCell ⟨b, 6, none⟩ v6) g zs :=
  ((((((h.other _ _ hne).other _ _ hne).other _ _ hne).other _ _ hne).other _ _ hne).other _ _ hne).other _ _ hne
/-- The result's cells are there, and what is written into them is read back. -/
structure Room (z : Nat) (x : World) : Prop where
  r : ∀ i, i < 7 → ∃ v, x.cell? ⟨z + 1 + 1, i, none⟩ = some v
  f1 : ∀ i, x.frozen? ⟨z + 1, i, none⟩ = false
  f2 : ∀ i, x.frozen? ⟨z + 1 + 1, i, none⟩ = false
  z : z + 1 + 1 < x.heap.size
theorem Room.below {z : Nat} {x y : World} (h : Room z x) {b : Nat} (hb : Below b x y) (hz : z + 1 + 1 < b) : Room z y :=
  ⟨fun i hi => by obtain ⟨v, hv⟩ := h.r i hi; exact ⟨v, (hb.cell (p := ⟨z + 1 + 1, i, none⟩) hz).trans hv⟩, fun i => (hb.frozen (p := ⟨z + 1, i, none⟩) (by show z + 1 < b; omega)).trans (h.f1 i), fun i => (hb.frozen (p := ⟨z + 1 + 1, i, none⟩) hz).trans (h.f2 i), Nat.lt_of_lt_of_le h.z hb.size⟩
theorem frozen_set (w : World) (a p : Addr) (v : Value) : (w.setCell a v).frozen? p = w.frozen? p := by
  go_simp
theorem Room.store {z : Nat} {x : World} (h : Room z x) (i : Nat) (v : Value) : Room z (x.setCell ⟨z + 1, i, none⟩ v) :=
  ⟨fun j hj => by
    obtain ⟨u, hu⟩ := h.r j hj
    exact ⟨u, (World.cell?_of_block (w := x) (a := ⟨z + 1 + 1, j, none⟩) (heap_setCell_other x ⟨z + 1, i, none⟩ (z + 1 + 1) v (by show z + 1 + 1 ≠ z + 1; omega))).trans hu⟩,
   fun j => (frozen_set _ _ _ _).trans (h.f1 j), fun j => (frozen_set _ _ _ _).trans (h.f2 j), by simpa [World.setCell] using h.z⟩
theorem Room.seven {z : Nat} {x : World} (h : Room z x) (v0 v1 v2 v3 v4 v5 v6 : Value) (X : World)
    (hX : X = (((((((x.setCell ⟨z + 1 + 1, 0, none⟩ v0).setCell ⟨z + 1 + 1, 1, none⟩ v1).setCell ⟨z + 1 + 1, 2, none⟩ v2).setCell ⟨z + 1 + 1, 3, none⟩ v3).setCell ⟨z + 1 + 1, 4, none⟩ v4).setCell ⟨z + 1 + 1, 5, none⟩ v5).setCell ⟨z + 1 + 1, 6, none⟩ v6)) :
    X.cell? ⟨z + 1 + 1, 0, none⟩ = some v0 ∧ X.cell? ⟨z + 1 + 1, 1, none⟩ = some v1 ∧ X.cell? ⟨z + 1 + 1, 2, none⟩ = some v2 ∧ X.cell? ⟨z + 1 + 1, 3, none⟩ = some v3 ∧ X.cell? ⟨z + 1 + 1, 4, none⟩ = some v4 ∧ X.cell? ⟨z + 1 + 1, 5, none⟩ = some v5 ∧ X.cell? ⟨z + 1 + 1, 6, none⟩ = some v6 := by
  obtain ⟨u0, h0⟩ := h.r 0 (by omega)
  obtain ⟨u1, h1⟩ := h.r 1 (by omega)
  obtain ⟨u2, h2⟩ := h.r 2 (by omega)
  obtain ⟨u3, h3⟩ := h.r 3 (by omega)
  obtain ⟨u4, h4⟩ := h.r 4 (by omega)
  obtain ⟨u5, h5⟩ := h.r 5 (by omega)
  obtain ⟨u6, h6⟩ := h.r 6 (by omega)
  subst hX
  refine ⟨?_, ?_, ?_, ?_, ?_, ?_, ?_⟩ <;> go_simp
theorem room_start (w : World) (oc : Obj) (f r : Array Value) (tf tr : TypeId) (hr : r.size = 7) : Room w.heap.size (((w.alloc oc).alloc (.cells f tf)).alloc (.cells r tr)) := by
  have e : ((w.alloc oc).alloc (.cells f tf)).heap.size = w.heap.size + 1 + 1 := by simp
  refine ⟨fun i hi => ⟨r[i]'(by omega), ?_⟩, fun i => ?_, fun i => ?_, by simp⟩
  · rw [← e, cell_of_row _ _ i r tr (0, 0) (heap_alloc_new _ _)]
    exact Array.getElem?_eq_getElem _
  · have := frozen_of_row (((w.alloc oc).alloc (.cells f tf)).alloc (.cells r tr)) (w.heap.size + 1) i f tf (by
      rw [Below.heap_alloc _ _ _ (by simp)]
      have := heap_alloc_new (w.alloc oc) (.cells f tf)
      simpa using this)
    exact this
  · have := frozen_of_row (((w.alloc oc).alloc (.cells f tf)).alloc (.cells r tr)) (w.heap.size + 1 + 1) i r tr (by
      have := heap_alloc_new ((w.alloc oc).alloc (.cells f tf)) (.cells r tr)
      rw [e] at this
      exact this)
    exact this
theorem cell_other {w : World} {a b : Addr} {x v : Value} (h : w.cell? b = some x) (hne : b.block ≠ a.block) : (w.setCell a v).cell? b = some x := by
  rw [World.cell?_of_block (w := w) (heap_setCell_other w a b.block v hne)]; exact h
theorem Boxes.vec {z : Nat} {x : World} {N W B L K F O S Lw : Int} {ad ad' : Option Addr} {len cap len' cap' : Nat} {body : ByteArray} (h : Boxes z x N W B L K F O S Lw ad len cap body) :
    Boxes z (x.setCell ⟨z + 1, 5, none⟩ (.slice ad' len' cap')) N W B L K F O S Lw ad' len' cap' body := by
  obtain ⟨c1, c2, c3, c4, c5, c6, c7, c8, c9, c10, c11, c12⟩ := h
  refine ⟨cell_other c1 (by show z ≠ z + 1; omega), cell_other c2 (by show z ≠ z + 1; omega), cell_other c3 (by show z ≠ z + 1; omega), cell_other c4 (by show z ≠ z + 1; omega), ?_, ?_, ?_, ?_, ?_, ?_, ?_, ?_⟩ <;> go_simp
end Go.Proofs.YtabecbjfamphbaaGreatDoor
