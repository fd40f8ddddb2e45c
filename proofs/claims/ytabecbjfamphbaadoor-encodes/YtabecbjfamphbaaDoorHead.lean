/-
  appendHead: all that stands ahead of the body.
-/
import Derived.Test.YtabecbjfamphbaaDoorRefNum
namespace Go.Proofs.YtabecbjfamphbaaDoor
open Go.RowKit Go.Stop Go.Extern

/-- The numbers of a vector, two bytes each. -/
def vecBytes : List Int → List UInt8
  | [] => []
  | v :: l => num v.toNat 2 ++ vecBytes l
theorem vecBytes_append (l m : List Int) : vecBytes (l ++ m) = vecBytes l ++ vecBytes m := by
  induction l with
  | nil => rfl
  | cons v l ih => simp [vecBytes, ih]
theorem vecBytes_length (l : List Int) : (vecBytes l).length = 2 * l.length := by
  induction l with
  | nil => rfl
  | cons v l ih => simp [vecBytes, ih, num_length]; omega
/-- All that stands ahead of the body. -/
def headBytes (N K F O S Lw : Int) (vs : List Int) (n : Nat) : List UInt8 :=
  [104, 115, UInt8.ofNat K.toNat, UInt8.ofNat N.toNat, UInt8.ofNat F.toNat] ++ (if K = 1 then UInt8.ofNat O.toNat :: (num S.toNat 2 ++ num Lw.toNat 2) else []) ++ vecBytes vs ++ (if K = 1 then [UInt8.ofNat n] else [])
theorem byte_nat {x : Int} (h : 0 ≤ x) : x % 256 = ((UInt8.ofNat x.toNat).toNat : Int) := by
  rw [UInt8.toNat_ofNat']
  omega
theorem Own.str {w w' : World} {base : Nat} {v v' : Value} {l : List UInt8} (s : ByteArray) (m : List UInt8) (hs : s = txt m) (h : Own w base v l) (h' : w'.ownsRow base 5 1 v' (l.length + s.size) (bcells l ++ Lib.strCells s)) (hg : w.grownBy w' v.ownBlock) (hb : base ≤ w.heap.size) : Own w' base v' (l ++ m) ∧ Below base w w' := by
  refine ⟨?_, (Below.refl _ _).grown hg hb h.block⟩
  subst hs
  unfold Own
  rw [bcells_append, List.length_append]
  rw [txt_size] at h'
  have e : Lib.strCells (txt m) = bcells m := by simp [Lib.strCells, bcells, txt_data]
  rw [e] at h'
  exact h'

theorem Own.mono {w : World} {b b' : Nat} {v : Value} {l : List UInt8} (h : Own w b v l) (hb : b' ≤ b) : Own w b' v l := by
  refine ⟨h.1, ?_⟩
  rcases h.2 with h2 | ⟨g, cap, cur, hv, hg, r⟩
  · exact Or.inl h2
  · exact Or.inr ⟨g, cap, cur, hv, Nat.le_trans hb hg, r⟩
theorem byte_in {x : Int} (h : 0 ≤ x) (h2 : x < 256) : x = ((UInt8.ofNat x.toNat).toNat : Int) := by
  rw [UInt8.toNat_ofNat']
  omega
theorem appendNumber_int (base : Nat) (v : Value) (l : List UInt8) (x k' : Int) (k : Nat) (hk' : k' = (k : Int)) (w : World) (hown : Own w base v l) (hbase : base ≤ w.heap.size) (hx0 : 0 ≤ x) (hx : x < 4294967296) (hk : k ≤ 4) (hl : l.length ≤ 1000) :
    Calls Tryd.prog 49 #[v, .int .i64 x, .int .i64 k'] w fun e w' => ∃ v', e = .returned v' ∧ Own w' base v' (l ++ num x.toNat k) ∧ Below base w w' := by
  subst hk'
  obtain ⟨y, rfl⟩ := Int.eq_ofNat_of_zero_le hx0
  exact appendNumber_any base v l y k w hown hbase (by omega) hk hl
/-- The two boxes of a function that takes a group and a frame. -/
structure Boxes (z : Nat) (x : World) (N W B L K F O S Lw : Int) (ad : Option Addr) (len cap : Nat) (body : ByteArray) : Prop where
  n : x.cell? ⟨z, 0, none⟩ = some (.int .i64 N)
  w : x.cell? ⟨z, 1, none⟩ = some (.int .i64 W)
  b : x.cell? ⟨z, 2, none⟩ = some (.int .i64 B)
  l : x.cell? ⟨z, 3, none⟩ = some (.int .i64 L)
  k : x.cell? ⟨z + 1, 0, none⟩ = some (.int .i64 K)
  f : x.cell? ⟨z + 1, 1, none⟩ = some (.int .i64 F)
  o : x.cell? ⟨z + 1, 2, none⟩ = some (.int .i64 O)
  s : x.cell? ⟨z + 1, 3, none⟩ = some (.int .i64 S)
  lw : x.cell? ⟨z + 1, 4, none⟩ = some (.int .i64 Lw)
  v : x.cell? ⟨z + 1, 5, none⟩ = some (.slice ad len cap)
  t : x.cell? ⟨z + 1, 6, none⟩ = some (.string body)
  z : z + 2 ≤ x.heap.size
theorem boxes_start (w : World) (N W B L K F O S Lw : Int) (ad : Option Addr) (len cap : Nat) (body : ByteArray) (tc tf : TypeId) :
    Boxes w.heap.size ((w.alloc (.cells #[.int .i64 N, .int .i64 W, .int .i64 B, .int .i64 L] tc)).alloc (.cells #[.int .i64 K, .int .i64 F, .int .i64 O, .int .i64 S, .int .i64 Lw, .slice ad len cap, .string body] tf)) N W B L K F O S Lw ad len cap body := by
  refine ⟨?_, ?_, ?_, ?_, ?_, ?_, ?_, ?_, ?_, ?_, ?_, ?_⟩ <;> simp
theorem Boxes.below {z : Nat} {x y : World} {N W B L K F O S Lw : Int} {ad : Option Addr} {len cap : Nat} {body : ByteArray} (h : Boxes z x N W B L K F O S Lw ad len cap body) {b : Nat} (hb : Below b x y) (hz : z + 2 ≤ b) : Boxes z y N W B L K F O S Lw ad len cap body := by
  have e0 : ∀ o, y.cell? ⟨z, o, none⟩ = x.cell? ⟨z, o, none⟩ := fun o => hb.cell (p := ⟨z, o, none⟩) (by show z < b; omega)
  have e1 : ∀ o, y.cell? ⟨z + 1, o, none⟩ = x.cell? ⟨z + 1, o, none⟩ := fun o => hb.cell (p := ⟨z + 1, o, none⟩) (by show z + 1 < b; omega)
  exact ⟨(e0 _).trans h.n, (e0 _).trans h.w, (e0 _).trans h.b, (e0 _).trans h.l, (e1 _).trans h.k, (e1 _).trans h.f, (e1 _).trans h.o, (e1 _).trans h.s, (e1 _).trans h.lw, (e1 _).trans h.v, (e1 _).trans h.t, Nat.le_trans h.z hb.size⟩

theorem vec_step {vs : List Int} {k : Nat} {x : Int} (hk : k < vs.length) (hx : x = vs.getD k 0) : vecBytes (vs.take (k + 1)) = vecBytes (vs.take k) ++ num x.toNat 2 := by
  rw [List.take_succ_eq_append_getElem hk, vecBytes_append, hx]
  simp [vecBytes, List.getD_eq_getElem?_getD, hk]
theorem vec_bd {vs : List Int} (hv : ∀ v ∈ vs, 0 ≤ v ∧ v ≤ 65535) {k : Nat} {x : Int} (hk : k < vs.length) (hx : x = vs.getD k 0) : 0 ≤ x ∧ x ≤ 65535 := by
  rw [hx, List.getD_eq_getElem?_getD, List.getElem?_eq_getElem hk]
  exact hv _ (List.getElem_mem hk)

set_option maxRecDepth 100000 in
set_option maxHeartbeats 4000000 in
theorem appendHead_data (N W B L F O S Lw : Int) (ad : Option Addr) (len cap : Nat) (body : ByteArray) (vs : List Int) (w : World) (hi : Ints w ad len vs)
    (hN1 : 2 ≤ N) (hN2 : N ≤ 8) (hF1 : 0 ≤ F) (hF2 : F < N) (hO1 : 0 ≤ O) (hO2 : O < N) (hS1 : 1 ≤ S) (hS2 : S ≤ 65535) (hL1 : 0 ≤ Lw) (hL2 : Lw < S) (hlen : len ≤ 8) (hbd : body.size ≤ 40) (hv : ∀ v ∈ vs, 0 ≤ v ∧ v ≤ 65535) :
    Calls Tryd.prog 48 #[.slice none 0 0, .agg #[.int .i64 N, .int .i64 W, .int .i64 B, .int .i64 L], .agg #[.int .i64 1, .int .i64 F, .int .i64 O, .int .i64 S, .int .i64 Lw, .slice ad len cap, .string body]] w fun e w' => (∃ v, e = .returned v ∧ Own w' w.heap.size v (headBytes N 1 F O S Lw vs body.size)) ∧ Below w.heap.size w w' := by
  have HI : Hid (Ints w ad len vs) := hi
  have HV : Hid (∀ v ∈ vs, 0 ≤ v ∧ v ≤ 65535) := hv
  clear hi hv
  obtain ⟨i0, hi, hz0, hz1, hz2⟩ := info_parts Tryd.infoByte
  have BX0 := boxes_start w N W B L 1 F O S Lw ad len cap body 23 26
  have HBX0 : Hid _ := BX0
  clear BX0
  have B0 := below2 w (.cells #[.int .i64 N, .int .i64 W, .int .i64 B, .int .i64 L] 23) (.cells #[.int .i64 1, .int .i64 F, .int .i64 O, .int .i64 S, .int .i64 Lw, .slice ad len cap, .string body] 26)
  have HB0 : Hid _ := B0
  clear B0
  go_enter Tryd.func48, Tryd.ntmps48
  go_wp2_with (at_builtin; refine Lib.wpList_append_own_string _ rfl (.tmp 9) _ 70 9 rfl (w.heap.size + 2) 5 i0 Tryd.underlying70 Tryd.underlying9 hi hz0 hz1 hz2 _ _ _ rfl (Own.nil _ _) _ rfl ?a1 ?a2 ?a3 ?_)
  case a1 => decide
  case a2 => decide
  case a3 => simp
  intro v1 w1 hown1 hgrow1 _
  have R1 := Own.str _ [104, 115] rfl (Own.nil _ _) hown1 hgrow1 (by simp)
  have HO1 : Hid _ := R1.1
  have HB1 : Hid _ := R1.2
  have BX1 := HBX0.out.below R1.2 (Nat.le_refl _)
  have HBX1 : Hid _ := BX1
  obtain ⟨cN, cW, cB, cL, cK, cF, cO, cS, cLw, cV, cT, cz⟩ := BX1
  clear hown1 hgrow1 R1
  go_wp2_with (at_builtin; refine wpList_append_own _ rfl (.tmp 11) (.tmp 21) 70 rfl (w.heap.size + 2) 5 i0 (.int .u8 0) 1 1 Tryd.underlying70 hi hz0 hz1 hz2 rfl (by decide) _ _ _ rfl (HO1.out.alloc _) ⟨w1.heap.size, 0, none⟩ 3 3 [.int .u8 1, .int .u8 N, .int .u8 F] rfl rfl ?b1 ?b2 ?b3 ?b4 ?b5 ?_)
  case b1 =>
    intro q u hq
    match q, hq with
    | 0, hq => simp at hq; subst hq; simp [Addr.add]
    | 1, hq => simp at hq; subst hq; simp [Addr.add]
    | 2, hq => simp at hq; subst hq; simp [Addr.add]
  case b2 => intro u hu; simp at hu; rcases hu with rfl | rfl | rfl <;> rfl
  case b3 => decide
  case b4 => decide
  case b5 => simp; omega
  intro v2 w2 hown2 hgrow2 _
  have R2 := Own.snoc [1, UInt8.ofNat N.toNat, UInt8.ofNat F.toNat] _ (by show _ = [Value.int .u8 1, .int .u8 ((UInt8.ofNat N.toNat).toNat : Int), .int .u8 ((UInt8.ofNat F.toNat).toNat : Int)]; rw [← byte_in (by omega) (by omega), ← byte_in hF1 (by omega)]) 3 rfl _ HO1.out hown2 hgrow2 cz
  have HO2 : Hid _ := R2.1
  have HB2 : Hid _ := R2.2
  have BX2 := HBX1.out.below R2.2 (Nat.le_refl _)
  have HBX2 : Hid _ := BX2
  clear cN cW cB cL cK cF cO cS cLw cV cT cz
  obtain ⟨cN, cW, cB, cL, cK, cF, cO, cS, cLw, cV, cT, cz⟩ := BX2
  clear hown2 hgrow2 R2
  go_wp2_with (at_builtin; refine wpList_append_own _ rfl (.tmp 26) (.tmp 30) 70 rfl (w.heap.size + 2) 5 i0 (.int .u8 0) 1 1 Tryd.underlying70 hi hz0 hz1 hz2 rfl (by decide) _ _ _ rfl (HO2.out.alloc _) ⟨w2.heap.size, 0, none⟩ 1 1 [.int .u8 O] rfl rfl ?d1 ?d2 ?d3 ?d4 ?d5 ?_)
  case d1 =>
    intro q u hq
    match q, hq with
    | 0, hq => simp at hq; subst hq; simp [Addr.add]
  case d2 => intro u hu; simp at hu; subst hu; rfl
  case d3 => unfold maxLen; simp
  case d4 => simp
  case d5 => simp; omega
  intro v3 w3 hown3 hgrow3 _
  have R3 := Own.snoc [UInt8.ofNat O.toNat] _ (by show _ = [Value.int .u8 ((UInt8.ofNat O.toNat).toNat : Int)]; rw [← byte_in hO1 (by omega)]) 1 rfl _ HO2.out hown3 hgrow3 cz
  have HO3 : Hid _ := R3.1
  have HB3 : Hid _ := R3.2
  have BX3 := HBX2.out.below R3.2 (Nat.le_refl _)
  have HBX3 : Hid _ := BX3
  clear cN cW cB cL cK cF cO cS cLw cV cT cz
  obtain ⟨cN, cW, cB, cL, cK, cF, cO, cS, cLw, cV, cT, cz⟩ := BX3
  clear hown3 hgrow3 R3
  go_wp2_with fail
  refine (appendNumber_int (w.heap.size + 2) v3 _ S 2 2 rfl w3 HO3.out cz (by omega) (by omega) (by omega) (by simp)).mono ?_
  rintro e w4 ⟨v4, rfl, hown4, hb4⟩
  have HO4 : Hid _ := hown4
  have HB4 : Hid _ := hb4
  have BX4 := HBX3.out.below hb4 (Nat.le_refl _)
  have HBX4 : Hid _ := BX4
  clear cN cW cB cL cK cF cO cS cLw cV cT cz
  obtain ⟨cN, cW, cB, cL, cK, cF, cO, cS, cLw, cV, cT, cz⟩ := BX4
  clear hown4 hb4
  go_wp2_with fail
  refine (appendNumber_int (w.heap.size + 2) v4 _ Lw 2 2 rfl w4 HO4.out cz (by omega) (by omega) (by omega) (by simp [num_length])).mono ?_
  rintro e w5 ⟨v5, rfl, hown5, hb5⟩
  have HO5 : Hid _ := hown5
  have HB5 : Hid _ := hb5
  have BX5 := HBX4.out.below hb5 (Nat.le_refl _)
  have HBX5 : Hid _ := BX5
  clear cN cW cB cL cK cF cO cS cLw cV cT cz
  obtain ⟨cN, cW, cB, cL, cK, cF, cO, cS, cLw, cV, cT, cz⟩ := BX5
  clear hown5 hb5
  obtain ⟨pre, hpre⟩ : ∃ pre, pre = [] ++ [104, 115] ++ [1, UInt8.ofNat N.toNat, UInt8.ofNat F.toNat] ++ [UInt8.ofNat O.toNat] ++ num S.toNat 2 ++ num Lw.toNat 2 := ⟨_, rfl⟩
  have hpl : pre.length = 10 := by rw [hpre]; simp [num_length]
  have HP : Hid (pre = [] ++ [104, 115] ++ [1, UInt8.ofNat N.toNat, UInt8.ofNat F.toNat] ++ [UInt8.ofNat O.toNat] ++ num S.toNat 2 ++ num Lw.toNat 2) := hpre
  have HO6 : Hid (Own w5 (w.heap.size + 2) v5 pre) := by rw [hpre]; exact HO5.out
  clear HO5 hpre
  have HPL : Hid (pre.length = 10) := hpl
  clear hpl
  have HBall : Hid (Below (w.heap.size + 2) ((w.alloc (.cells #[.int .i64 N, .int .i64 W, .int .i64 B, .int .i64 L] 23)).alloc (.cells #[.int .i64 1, .int .i64 F, .int .i64 O, .int .i64 S, .int .i64 Lw, .slice ad len cap, .string body] 26)) w5) := HB1.out.trans (HB2.out.trans (HB3.out.trans (HB4.out.trans HB5.out)))
  clear HO1 HO2 HO3 HO4 HB1 HB2 HB3 HB4 HB5 HBX1 HBX2 HBX3 HBX4
  have hlen8 : (len : Int) ≤ 8 := by omega
  have HL : Hid (vs.length = len) := HI.out.len
  go_wp2
  go_loopw [0, 43] (fun u c wr => ∃ k : Nat, k ≤ len ∧ c = .int .i64 k ∧ Own wr (w.heap.size + 2) u (pre ++ vecBytes (vs.take k)) ∧ Below (w.heap.size + 2) w5 wr) (fun _ c _ => len - (intOf c).toNat)
  case atStart => exact ⟨0, Nat.zero_le _, rfl, by simpa [vecBytes] using HO6.out, Below.refl _ _⟩
  case round =>
    obtain ⟨k, hk, rfl, hown, hbel⟩ := hrel
    have HO : Hid (Own wr (w.heap.size + 2) _ (pre ++ vecBytes (vs.take k))) := hown
    have HB : Hid (Below (w.heap.size + 2) w5 wr) := hbel
    have HBX : Hid _ := HBX5.out.below hbel (Nat.le_refl _)
    have BXr := HBX.out
    clear hown hbel cN cW cB cL cK cF cO cS cLw cV cT cz
    obtain ⟨cN, cW, cB, cL, cK, cF, cO, cS, cLw, cV, cT, cz⟩ := BXr
    by_cases hlt : k < len
    · obtain ⟨b, off, rfl, hbl, hcell⟩ := HI.out.cell k hlt
      obtain ⟨x, hx⟩ : ∃ x, x = vs.getD k 0 := ⟨_, rfl⟩
      rw [← hx] at hcell
      have HX : Hid (x = vs.getD k 0) := hx
      clear hx
      have hxb := vec_bd HV.out (by rw [HL.out]; exact hlt) HX.out
      obtain ⟨hx0, hx1⟩ := hxb
      have hcr : wr.cell? ⟨b, off + k, none⟩ = some (.int .i64 x) := by
        have e1 := (HBall.out.trans HB.out).cell (p := ⟨b, off + k, none⟩) (show b < w.heap.size + 2 by omega)
        have e2 := HB0.out.cell (p := ⟨b, off + k, none⟩) hbl
        rw [e1, e2]; exact hcell
      clear hcell
      go_wp2_with fail
      refine (appendNumber_int (w.heap.size + 2) _ _ x 2 2 rfl wr HO.out cz hx0 (by omega) (by omega) (by have := vecBytes_length (vs.take k); have h2 := List.length_take_le k vs; simp [HPL.out, this]; omega)).mono ?_
      rintro e w6 ⟨v6, rfl, hown6, hb6⟩
      have HO7 : Hid (Own w6 (w.heap.size + 2) v6 (pre ++ vecBytes (vs.take (k + 1)))) := by
        rw [vec_step (by rw [HL.out]; exact hlt) HX.out, ← List.append_assoc]; exact hown6
      have HB7 : Hid _ := hb6
      clear hown6 hb6
      go_wp2
      go_roundw
      case rel => exact ⟨k + 1, by omega, by go_num, HO7.out, HB.out.trans HB7.out⟩
      case measure => simp [intOf]; omega
    · have ho8 := HO.out
      rw [List.take_of_length_le (by rw [HL.out]; omega)] at ho8
      have HO8 : Hid _ := ho8
      clear HO ho8
      go_wp2_with (at_builtin; refine wpList_append_own _ rfl (.tmp 54) (.tmp 59) 70 rfl (w.heap.size + 2) 5 i0 (.int .u8 0) 1 1 Tryd.underlying70 hi hz0 hz1 hz2 rfl (by decide) _ _ _ rfl (HO8.out.alloc _) ⟨wr.heap.size, 0, none⟩ 1 1 [.int .u8 (body.size : Int)] rfl rfl ?e1 ?e2 ?e3 ?e4 ?e5 ?_)
      case e1 =>
        intro q u hq
        match q, hq with
        | 0, hq => simp at hq; subst hq; simp [Addr.add]
      case e2 => intro u hu; simp at hu; subst hu; rfl
      case e3 => have := vecBytes_length vs; have h9 := HL.out; have h8 := HPL.out; unfold maxLen; simp [h8, this]; omega
      case e4 => have := vecBytes_length vs; have h9 := HL.out; have h8 := HPL.out; simp [h8, this]; omega
      case e5 => simp; omega
      intro v9 w9 hown9 hgrow9 _
      rw [← List.length_append] at hown9
      have R9 := Own.snoc [UInt8.ofNat body.size] [Value.int .u8 (body.size : Int)] (by show _ = [Value.int .u8 ((UInt8.ofNat body.size).toNat : Int)]; have := byte_in (x := (body.size : Int)) (by omega) (by omega); rw [Int.toNat_natCast] at this; rw [← this]) 1 rfl _ HO8.out hown9 hgrow9 cz
      have HO9 : Hid _ := R9.1
      have HB9 : Hid _ := R9.2
      clear hown9 hgrow9 R9
      go_wp2
      go_ret
      refine ⟨⟨_, rfl, ?_⟩, HB0.out.trans ((HBall.out.trans (HB.out.trans HB9.out)).mono (by omega))⟩
      have h9 := HO9.out
      rw [HP.out] at h9
      have e : headBytes N 1 F O S Lw vs body.size = [] ++ [104, 115] ++ [1, UInt8.ofNat N.toNat, UInt8.ofNat F.toNat] ++ [UInt8.ofNat O.toNat] ++ num S.toNat 2 ++ num Lw.toNat 2 ++ vecBytes vs ++ [UInt8.ofNat body.size] := by
        simp [headBytes]
      rw [e]
      exact Own.mono h9 (by omega)

set_option maxRecDepth 100000 in
set_option maxHeartbeats 4000000 in
theorem appendHead_state (N W B L F O S Lw : Int) (ad : Option Addr) (len cap : Nat) (body : ByteArray) (vs : List Int) (w : World) (hi : Ints w ad len vs)
    (hN1 : 2 ≤ N) (hN2 : N ≤ 8) (hF1 : 0 ≤ F) (hF2 : F < N) (hlen : len ≤ 8) (hv : ∀ v ∈ vs, 0 ≤ v ∧ v ≤ 65535) :
    Calls Tryd.prog 48 #[.slice none 0 0, .agg #[.int .i64 N, .int .i64 W, .int .i64 B, .int .i64 L], .agg #[.int .i64 2, .int .i64 F, .int .i64 O, .int .i64 S, .int .i64 Lw, .slice ad len cap, .string body]] w fun e w' => (∃ v, e = .returned v ∧ Own w' w.heap.size v (headBytes N 2 F O S Lw vs body.size)) ∧ Below w.heap.size w w' := by
  have HI : Hid (Ints w ad len vs) := hi
  have HV : Hid (∀ v ∈ vs, 0 ≤ v ∧ v ≤ 65535) := hv
  clear hi hv
  obtain ⟨i0, hi, hz0, hz1, hz2⟩ := info_parts Tryd.infoByte
  have BX0 := boxes_start w N W B L 2 F O S Lw ad len cap body 23 26
  have HBX0 : Hid _ := BX0
  clear BX0
  have B0 := below2 w (.cells #[.int .i64 N, .int .i64 W, .int .i64 B, .int .i64 L] 23) (.cells #[.int .i64 2, .int .i64 F, .int .i64 O, .int .i64 S, .int .i64 Lw, .slice ad len cap, .string body] 26)
  have HB0 : Hid _ := B0
  clear B0
  go_enter Tryd.func48, Tryd.ntmps48
  go_wp2_with (at_builtin; refine Lib.wpList_append_own_string _ rfl (.tmp 9) _ 70 9 rfl (w.heap.size + 2) 5 i0 Tryd.underlying70 Tryd.underlying9 hi hz0 hz1 hz2 _ _ _ rfl (Own.nil _ _) _ rfl ?a1 ?a2 ?a3 ?_)
  case a1 => decide
  case a2 => decide
  case a3 => simp
  intro v1 w1 hown1 hgrow1 _
  have R1 := Own.str _ [104, 115] rfl (Own.nil _ _) hown1 hgrow1 (by simp)
  have HO1 : Hid _ := R1.1
  have HB1 : Hid _ := R1.2
  have BX1 := HBX0.out.below R1.2 (Nat.le_refl _)
  have HBX1 : Hid _ := BX1
  obtain ⟨cN, cW, cB, cL, cK, cF, cO, cS, cLw, cV, cT, cz⟩ := BX1
  clear hown1 hgrow1 R1
  go_wp2_with (at_builtin; refine wpList_append_own _ rfl (.tmp 11) (.tmp 21) 70 rfl (w.heap.size + 2) 5 i0 (.int .u8 0) 1 1 Tryd.underlying70 hi hz0 hz1 hz2 rfl (by decide) _ _ _ rfl (HO1.out.alloc _) ⟨w1.heap.size, 0, none⟩ 3 3 [.int .u8 2, .int .u8 N, .int .u8 F] rfl rfl ?b1 ?b2 ?b3 ?b4 ?b5 ?_)
  case b1 =>
    intro q u hq
    match q, hq with
    | 0, hq => simp at hq; subst hq; simp [Addr.add]
    | 1, hq => simp at hq; subst hq; simp [Addr.add]
    | 2, hq => simp at hq; subst hq; simp [Addr.add]
  case b2 => intro u hu; simp at hu; rcases hu with rfl | rfl | rfl <;> rfl
  case b3 => decide
  case b4 => decide
  case b5 => simp; omega
  intro v2 w2 hown2 hgrow2 _
  have R2 := Own.snoc [2, UInt8.ofNat N.toNat, UInt8.ofNat F.toNat] _ (by show _ = [Value.int .u8 2, .int .u8 ((UInt8.ofNat N.toNat).toNat : Int), .int .u8 ((UInt8.ofNat F.toNat).toNat : Int)]; rw [← byte_in (by omega) (by omega), ← byte_in hF1 (by omega)]) 3 rfl _ HO1.out hown2 hgrow2 cz
  have HO2 : Hid _ := R2.1
  have HB2 : Hid _ := R2.2
  have BX2 := HBX1.out.below R2.2 (Nat.le_refl _)
  have HBX2 : Hid _ := BX2
  clear cN cW cB cL cK cF cO cS cLw cV cT cz
  obtain ⟨cN, cW, cB, cL, cK, cF, cO, cS, cLw, cV, cT, cz⟩ := BX2
  clear hown2 hgrow2 R2
  obtain ⟨pre, hpre⟩ : ∃ pre, pre = [] ++ [104, 115] ++ [2, UInt8.ofNat N.toNat, UInt8.ofNat F.toNat] := ⟨_, rfl⟩
  have hpl : pre.length = 5 := by rw [hpre]; simp
  have HP : Hid (pre = [] ++ [104, 115] ++ [2, UInt8.ofNat N.toNat, UInt8.ofNat F.toNat]) := hpre
  have HO6 : Hid (Own w2 (w.heap.size + 2) v2 pre) := by rw [hpre]; exact HO2.out
  clear HO2 hpre
  have HPL : Hid (pre.length = 5) := hpl
  clear hpl
  have HBall : Hid (Below (w.heap.size + 2) ((w.alloc (.cells #[.int .i64 N, .int .i64 W, .int .i64 B, .int .i64 L] 23)).alloc (.cells #[.int .i64 2, .int .i64 F, .int .i64 O, .int .i64 S, .int .i64 Lw, .slice ad len cap, .string body] 26)) w2) := HB1.out.trans HB2.out
  clear HO1 HB1 HB2 HBX1
  have hlen8 : (len : Int) ≤ 8 := by omega
  have HL : Hid (vs.length = len) := HI.out.len
  go_wp2
  go_loopw [0, 43] (fun u c wr => ∃ k : Nat, k ≤ len ∧ c = .int .i64 k ∧ Own wr (w.heap.size + 2) u (pre ++ vecBytes (vs.take k)) ∧ Below (w.heap.size + 2) w2 wr) (fun _ c _ => len - (intOf c).toNat)
  case atStart => exact ⟨0, Nat.zero_le _, rfl, by simpa [vecBytes] using HO6.out, Below.refl _ _⟩
  case round =>
    obtain ⟨k, hk, rfl, hown, hbel⟩ := hrel
    have HO : Hid (Own wr (w.heap.size + 2) _ (pre ++ vecBytes (vs.take k))) := hown
    have HB : Hid (Below (w.heap.size + 2) w2 wr) := hbel
    have HBX : Hid _ := HBX2.out.below hbel (Nat.le_refl _)
    have BXr := HBX.out
    clear hown hbel cN cW cB cL cK cF cO cS cLw cV cT cz
    obtain ⟨cN, cW, cB, cL, cK, cF, cO, cS, cLw, cV, cT, cz⟩ := BXr
    by_cases hlt : k < len
    · obtain ⟨b, off, rfl, hbl, hcell⟩ := HI.out.cell k hlt
      obtain ⟨x, hx⟩ : ∃ x, x = vs.getD k 0 := ⟨_, rfl⟩
      rw [← hx] at hcell
      have HX : Hid (x = vs.getD k 0) := hx
      clear hx
      have hxb := vec_bd HV.out (by rw [HL.out]; exact hlt) HX.out
      obtain ⟨hx0, hx1⟩ := hxb
      have hcr : wr.cell? ⟨b, off + k, none⟩ = some (.int .i64 x) := by
        have e1 := (HBall.out.trans HB.out).cell (p := ⟨b, off + k, none⟩) (show b < w.heap.size + 2 by omega)
        have e2 := HB0.out.cell (p := ⟨b, off + k, none⟩) hbl
        rw [e1, e2]; exact hcell
      clear hcell
      go_wp2_with fail
      refine (appendNumber_int (w.heap.size + 2) _ _ x 2 2 rfl wr HO.out cz hx0 (by omega) (by omega) (by have := vecBytes_length (vs.take k); have h2 := List.length_take_le k vs; simp [HPL.out, this]; omega)).mono ?_
      rintro e w6 ⟨v6, rfl, hown6, hb6⟩
      have HO7 : Hid (Own w6 (w.heap.size + 2) v6 (pre ++ vecBytes (vs.take (k + 1)))) := by
        rw [vec_step (by rw [HL.out]; exact hlt) HX.out, ← List.append_assoc]; exact hown6
      have HB7 : Hid _ := hb6
      clear hown6 hb6
      go_wp2
      go_roundw
      case rel => exact ⟨k + 1, by omega, by go_num, HO7.out, HB.out.trans HB7.out⟩
      case measure => simp [intOf]; omega
    · have ho8 := HO.out
      rw [List.take_of_length_le (by rw [HL.out]; omega)] at ho8
      have HO8 : Hid _ := ho8
      clear HO ho8
      go_wp2
      go_ret
      refine ⟨⟨_, rfl, ?_⟩, HB0.out.trans ((HBall.out.trans HB.out).mono (by omega))⟩
      have h9 := HO8.out
      rw [HP.out] at h9
      have e : headBytes N 2 F O S Lw vs body.size = [] ++ [104, 115] ++ [2, UInt8.ofNat N.toNat, UInt8.ofNat F.toNat] ++ vecBytes vs := by
        simp [headBytes]
      rw [e]
      exact Own.mono h9 (by omega)
end Go.Proofs.YtabecbjfamphbaaDoor
