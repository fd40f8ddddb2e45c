/-
  Texts that the proof needs, joined: Head, Enc, Tx, Po, Tk.
-/
import Derived.Test.YtabecbjfamphbaaGreatDoorT10
import Derived.Deep.RegionLaw
import Derived.Test.YtabecbjfamphbaaGreatDoorT08
import Derived.Deep.RegionHeld3
import Derived.Maps.AppendAt
import Derived.Deep.AppendLies
import Derived.Test.YtabecbjfamphbaaGreatDoorT04
import Derived.Deep.RegionHeldLaw
/- appendHead: all that stands ahead of the body. -/
namespace Go.Proofs.YtabecbjfamphbaaGreatDoor
open Go.RowKit Go.Stop Go.Extern

/-- The numbers of a vector, two bytes each. -/
def vecBytes : List Int → List UInt8
  | [] => []
  | v :: l => num v.toNat 2 ++ vecBytes l
theorem vecBytes_append (l m : List Int) : vecBytes (l ++ m) = vecBytes l ++ vecBytes m := by
  induction l with
  | nil => rfl
  | cons v l ih => simp [vecBytes, ih]
theorem vecBytes_length (l : List Int) : (vecBytes l).length = 2 * l.length := by
  induction l with
  | nil => rfl
  | cons v l ih => simp [vecBytes, ih, num_length]; omega
/-- All that stands ahead of the body. -/
def headBytes (N K F O S Lw : Int) (vs : List Int) (n : Nat) : List UInt8 :=
  [104, 115, UInt8.ofNat K.toNat, UInt8.ofNat N.toNat, UInt8.ofNat F.toNat] ++ (if K = 1 then UInt8.ofNat O.toNat :: (num S.toNat 2 ++ num Lw.toNat 2) else []) ++ vecBytes vs ++ (if K = 1 then [UInt8.ofNat n] else [])
theorem Own.str {w w' : World} {base : Nat} {v v' : Value} {l : List UInt8} (s : ByteArray) (m : List UInt8) (hs : s = txt m) (h : Own w base v l) (h' : w'.ownsRow base 5 1 v' (l.length + s.size) (bcells l ++ Lib.strCells s)) (hg : w.grownBy w' v.ownBlock) (hb : base ≤ w.heap.size) : Own w' base v' (l ++ m) ∧ Below base w w' := by
  refine ⟨?_, (Below.refl _ _).grown hg hb h.block⟩
  subst hs
  unfold Own
  rw [bcells_append, List.length_append]
  rw [txt_size] at h'
  have e : Lib.strCells (txt m) = bcells m := by simp [Lib.strCells, bcells, txt_data]
  rw [e] at h'
  exact h'

theorem Own.mono {w : World} {b b' : Nat} {v : Value} {l : List UInt8} (h : Own w b v l) (hb : b' ≤ b) : Own w b' v l := by
  refine ⟨h.1, ?_⟩
  rcases h.2 with h2 | ⟨g, cap, cur, hv, hg, r⟩
  · exact Or.inl h2
  · exact Or.inr ⟨g, cap, cur, hv, Nat.le_trans hb hg, r⟩
theorem byte_in {x : Int} (h : 0 ≤ x) (h2 : x < 256) : x = ((UInt8.ofNat x.toNat).toNat : Int) := by
  rw [UInt8.toNat_ofNat']
  omega
theorem appendNumber_int (base : Nat) (v : Value) (l : List UInt8) (x k' : Int) (k : Nat) (hk' : k' = (k : Int)) (w : World) (hown : Own w base v l) (hbase : base ≤ w.heap.size) (hx0 : 0 ≤ x) (hx : x < 4294967296) (hk : k ≤ 4) (hl : l.length ≤ 1000) :
    Calls Tryz.prog 182 #[v, .int .i64 x, .int .i64 k'] w fun e w' => ∃ v', e = .returned v' ∧ Own w' base v' (l ++ num x.toNat k) ∧ Below base w w' := by
  subst hk'
  obtain ⟨y, rfl⟩ := Int.eq_ofNat_of_zero_le hx0
  exact appendNumber_any base v l y k w hown hbase (by omega) hk hl
/-- The two boxes of a function that takes a group and a frame. -/
structure Boxes (z : Nat) (x : World) (N W B L K F O S Lw : Int) (ad : Option Addr) (len cap : Nat) (body : ByteArray) : Prop where
  n : x.cell? ⟨z, 0, none⟩ = some (.int .i64 N)
  w : x.cell? ⟨z, 1, none⟩ = some (.int .i64 W)
  b : x.cell? ⟨z, 2, none⟩ = some (.int .i64 B)
  l : x.cell? ⟨z, 3, none⟩ = some (.int .i64 L)
  k : x.cell? ⟨z + 1, 0, none⟩ = some (.int .i64 K)
  f : x.cell? ⟨z + 1, 1, none⟩ = some (.int .i64 F)
  o : x.cell? ⟨z + 1, 2, none⟩ = some (.int .i64 O)
  s : x.cell? ⟨z + 1, 3, none⟩ = some (.int .i64 S)
  lw : x.cell? ⟨z + 1, 4, none⟩ = some (.int .i64 Lw)
  v : x.cell? ⟨z + 1, 5, none⟩ = some (.slice ad len cap)
  t : x.cell? ⟨z + 1, 6, none⟩ = some (.string body)
  z : z + 2 ≤ x.heap.size
theorem boxes_start (w : World) (N W B L K F O S Lw : Int) (ad : Option Addr) (len cap : Nat) (body : ByteArray) (tc tf : TypeId) :
    Boxes w.heap.size ((w.alloc (.cells #[.int .i64 N, .int .i64 W, .int .i64 B, .int .i64 L] tc)).alloc (.cells #[.int .i64 K, .int .i64 F, .int .i64 O, .int .i64 S, .int .i64 Lw, .slice ad len cap, .string body] tf)) N W B L K F O S Lw ad len cap body := by
  refine ⟨?_, ?_, ?_, ?_, ?_, ?_, ?_, ?_, ?_, ?_, ?_, ?_⟩ <;> simp
theorem Boxes.below {z : Nat} {x y : World} {N W B L K F O S Lw : Int} {ad : Option Addr} {len cap : Nat} {body : ByteArray} (h : Boxes z x N W B L K F O S Lw ad len cap body) {b : Nat} (hb : Below b x y) (hz : z + 2 ≤ b) : Boxes z y N W B L K F O S Lw ad len cap body := by
  have e0 : ∀ o, y.cell? ⟨z, o, none⟩ = x.cell? ⟨z, o, none⟩ := fun o => hb.cell (p := ⟨z, o, none⟩) (by show z < b; omega)
  have e1 : ∀ o, y.cell? ⟨z + 1, o, none⟩ = x.cell? ⟨z + 1, o, none⟩ := fun o => hb.cell (p := ⟨z + 1, o, none⟩) (by show z + 1 < b; omega)
  exact ⟨(e0 _).trans h.n, (e0 _).trans h.w, (e0 _).trans h.b, (e0 _).trans h.l, (e1 _).trans h.k, (e1 _).trans h.f, (e1 _).trans h.o, (e1 _).trans h.s, (e1 _).trans h.lw, (e1 _).trans h.v, (e1 _).trans h.t, Nat.le_trans h.z hb.size⟩

theorem vec_step {vs : List Int} {k : Nat} {x : Int} (hk : k < vs.length) (hx : x = vs.getD k 0) : vecBytes (vs.take (k + 1)) = vecBytes (vs.take k) ++ num x.toNat 2 := by
  rw [List.take_succ_eq_append_getElem hk, vecBytes_append, hx]
  simp [vecBytes, List.getD_eq_getElem?_getD, hk]
theorem vec_bd {vs : List Int} (hv : ∀ v ∈ vs, 0 ≤ v ∧ v ≤ 65535) {k : Nat} {x : Int} (hk : k < vs.length) (hx : x = vs.getD k 0) : 0 ≤ x ∧ x ≤ 65535 := by
  rw [hx, List.getD_eq_getElem?_getD, List.getElem?_eq_getElem hk]
  exact hv _ (List.getElem_mem hk)

set_option maxRecDepth 100000 in
set_option maxHeartbeats 4000000 in
theorem appendHead_data (N W B L F O S Lw : Int) (ad : Option Addr) (len cap : Nat) (body : ByteArray) (vs : List Int) (w : World) (hi : Ints w ad len vs)
    (hN1 : 2 ≤ N) (hN2 : N ≤ 8) (hF1 : 0 ≤ F) (hF2 : F < N) (hO1 : 0 ≤ O) (hO2 : O < N) (hS1 : 1 ≤ S) (hS2 : S ≤ 65535) (hL1 : 0 ≤ Lw) (hL2 : Lw < S) (hlen : len ≤ 8) (hbd : body.size ≤ 40) (hv : ∀ v ∈ vs, 0 ≤ v ∧ v ≤ 65535) :
    Calls Tryz.prog 181 #[.slice none 0 0, .agg #[.int .i64 N, .int .i64 W, .int .i64 B, .int .i64 L], .agg #[.int .i64 1, .int .i64 F, .int .i64 O, .int .i64 S, .int .i64 Lw, .slice ad len cap, .string body]] w fun e w' => (∃ v, e = .returned v ∧ Own w' w.heap.size v (headBytes N 1 F O S Lw vs body.size)) ∧ Below w.heap.size w w' := by
  have HI : Hid (Ints w ad len vs) := hi
  have HV : Hid (∀ v ∈ vs, 0 ≤ v ∧ v ≤ 65535) := hv
  clear hi hv
  obtain ⟨i0, hi, hz0, hz1, hz2⟩ := info_parts Tryz.infoByte
  have BX0 := boxes_start w N W B L 1 F O S Lw ad len cap body 26 45
  have HBX0 : Hid _ := BX0
  clear BX0
  have B0 := below2 w (.cells #[.int .i64 N, .int .i64 W, .int .i64 B, .int .i64 L] 26) (.cells #[.int .i64 1, .int .i64 F, .int .i64 O, .int .i64 S, .int .i64 Lw, .slice ad len cap, .string body] 45)
  have HB0 : Hid _ := B0
  clear B0
  go_enter Tryz.func181, Tryz.ntmps181
  go_wp2_with (at_builtin; refine Lib.wpList_append_own_string _ rfl (.tmp 9) _ 241 9 rfl (w.heap.size + 2) 5 i0 Tryz.underlying241 Tryz.underlying9 hi hz0 hz1 hz2 _ _ _ rfl (Own.nil _ _) _ rfl ?a1 ?a2 ?a3 ?_)
  case a1 => decide
  case a2 => decide
  case a3 => simp
  intro v1 w1 hown1 hgrow1 _
  have R1 := Own.str _ [104, 115] rfl (Own.nil _ _) hown1 hgrow1 (by simp)
  have HO1 : Hid _ := R1.1
  have HB1 : Hid _ := R1.2
  have BX1 := HBX0.out.below R1.2 (Nat.le_refl _)
  have HBX1 : Hid _ := BX1
  obtain ⟨cN, cW, cB, cL, cK, cF, cO, cS, cLw, cV, cT, cz⟩ := BX1
  clear hown1 hgrow1 R1
  go_wp2_with (at_builtin; refine wpList_append_own _ rfl (.tmp 11) (.tmp 21) 241 rfl (w.heap.size + 2) 5 i0 (.int .u8 0) 1 1 Tryz.underlying241 hi hz0 hz1 hz2 rfl (by decide) _ _ _ rfl (HO1.out.alloc _) ⟨w1.heap.size, 0, none⟩ 3 3 [.int .u8 1, .int .u8 N, .int .u8 F] rfl rfl ?b1 ?b2 ?b3 ?b4 ?b5 ?_)
  case b1 =>
    intro q u hq
    match q, hq with
    | 0, hq => simp at hq; subst hq; simp [Addr.add]
    | 1, hq => simp at hq; subst hq; simp [Addr.add]
    | 2, hq => simp at hq; subst hq; simp [Addr.add]
  case b2 => intro u hu; simp at hu; rcases hu with rfl | rfl | rfl <;> rfl
  case b3 => decide
  case b4 => decide
  case b5 => simp; omega
  intro v2 w2 hown2 hgrow2 _
  have R2 := Own.snoc [1, UInt8.ofNat N.toNat, UInt8.ofNat F.toNat] _ (by show _ = [Value.int .u8 1, .int .u8 ((UInt8.ofNat N.toNat).toNat : Int), .int .u8 ((UInt8.ofNat F.toNat).toNat : Int)]; rw [← byte_in (by omega) (by omega), ← byte_in hF1 (by omega)]) 3 rfl _ HO1.out hown2 hgrow2 cz
  have HO2 : Hid _ := R2.1
  have HB2 : Hid _ := R2.2
  have BX2 := HBX1.out.below R2.2 (Nat.le_refl _)
  have HBX2 : Hid _ := BX2
  clear cN cW cB cL cK cF cO cS cLw cV cT cz
  obtain ⟨cN, cW, cB, cL, cK, cF, cO, cS, cLw, cV, cT, cz⟩ := BX2
  clear hown2 hgrow2 R2
  go_wp2_with (at_builtin; refine wpList_append_own _ rfl (.tmp 26) (.tmp 30) 241 rfl (w.heap.size + 2) 5 i0 (.int .u8 0) 1 1 Tryz.underlying241 hi hz0 hz1 hz2 rfl (by decide) _ _ _ rfl (HO2.out.alloc _) ⟨w2.heap.size, 0, none⟩ 1 1 [.int .u8 O] rfl rfl ?d1 ?d2 ?d3 ?d4 ?d5 ?_)
  case d1 =>
    intro q u hq
    match q, hq with
    | 0, hq => simp at hq; subst hq; simp [Addr.add]
  case d2 => intro u hu; simp at hu; subst hu; rfl
  case d3 => unfold maxLen; simp
  case d4 => simp
  case d5 => simp; omega
  intro v3 w3 hown3 hgrow3 _
  have R3 := Own.snoc [UInt8.ofNat O.toNat] _ (by show _ = [Value.int .u8 ((UInt8.ofNat O.toNat).toNat : Int)]; rw [← byte_in hO1 (by omega)]) 1 rfl _ HO2.out hown3 hgrow3 cz
  have HO3 : Hid _ := R3.1
  have HB3 : Hid _ := R3.2
  have BX3 := HBX2.out.below R3.2 (Nat.le_refl _)
  have HBX3 : Hid _ := BX3
  clear cN cW cB cL cK cF cO cS cLw cV cT cz
  obtain ⟨cN, cW, cB, cL, cK, cF, cO, cS, cLw, cV, cT, cz⟩ := BX3
  clear hown3 hgrow3 R3
  go_wp2_with fail
  refine (appendNumber_int (w.heap.size + 2) v3 _ S 2 2 rfl w3 HO3.out cz (by omega) (by omega) (by omega) (by simp)).mono ?_
  rintro e w4 ⟨v4, rfl, hown4, hb4⟩
  have HO4 : Hid _ := hown4
  have HB4 : Hid _ := hb4
  have BX4 := HBX3.out.below hb4 (Nat.le_refl _)
  have HBX4 : Hid _ := BX4
  clear cN cW cB cL cK cF cO cS cLw cV cT cz
  obtain ⟨cN, cW, cB, cL, cK, cF, cO, cS, cLw, cV, cT, cz⟩ := BX4
  clear hown4 hb4
  go_wp2_with fail
  refine (appendNumber_int (w.heap.size + 2) v4 _ Lw 2 2 rfl w4 HO4.out cz (by omega) (by omega) (by omega) (by simp [num_length])).mono ?_
  rintro e w5 ⟨v5, rfl, hown5, hb5⟩
  have HO5 : Hid _ := hown5
  have HB5 : Hid _ := hb5
  have BX5 := HBX4.out.below hb5 (Nat.le_refl _)
  have HBX5 : Hid _ := BX5
  clear cN cW cB cL cK cF cO cS cLw cV cT cz
  obtain ⟨cN, cW, cB, cL, cK, cF, cO, cS, cLw, cV, cT, cz⟩ := BX5
  clear hown5 hb5
  obtain ⟨pre, hpre⟩ : ∃ pre, pre = [] ++ [104, 115] ++ [1, UInt8.ofNat N.toNat, UInt8.ofNat F.toNat] ++ [UInt8.ofNat O.toNat] ++ num S.toNat 2 ++ num Lw.toNat 2 := ⟨_, rfl⟩
  have hpl : pre.length = 10 := by rw [hpre]; simp [num_length]
  have HP : Hid (pre = [] ++ [104, 115] ++ [1, UInt8.ofNat N.toNat, UInt8.ofNat F.toNat] ++ [UInt8.ofNat O.toNat] ++ num S.toNat 2 ++ num Lw.toNat 2) := hpre
  have HO6 : Hid (Own w5 (w.heap.size + 2) v5 pre) := by rw [hpre]; exact HO5.out
  clear HO5 hpre
  have HPL : Hid (pre.length = 10) := hpl
  clear hpl
  have HBall : Hid (Below (w.heap.size + 2) ((w.alloc (.cells #[.int .i64 N, .int .i64 W, .int .i64 B, .int .i64 L] 26)).alloc (.cells #[.int .i64 1, .int .i64 F, .int .i64 O, .int .i64 S, .int .i64 Lw, .slice ad len cap, .string body] 45)) w5) := HB1.out.trans (HB2.out.trans (HB3.out.trans (HB4.out.trans HB5.out)))
  clear HO1 HO2 HO3 HO4 HB1 HB2 HB3 HB4 HB5 HBX1 HBX2 HBX3 HBX4
  have hlen8 : (len : Int) ≤ 8 := by omega
  have HL : Hid (vs.length = len) := HI.out.len
  go_wp2
  go_loopw [0, 43] (fun u c wr => ∃ k : Nat, k ≤ len ∧ c = .int .i64 k ∧ Own wr (w.heap.size + 2) u (pre ++ vecBytes (vs.take k)) ∧ Below (w.heap.size + 2) w5 wr) (fun _ c _ => len - (intOf c).toNat)
  case atStart => exact ⟨0, Nat.zero_le _, rfl, by simpa [vecBytes] using HO6.out, Below.refl _ _⟩
  case round =>
    obtain ⟨k, hk, rfl, hown, hbel⟩ := hrel
    have HO : Hid (Own wr (w.heap.size + 2) _ (pre ++ vecBytes (vs.take k))) := hown
    have HB : Hid (Below (w.heap.size + 2) w5 wr) := hbel
    have HBX : Hid _ := HBX5.out.below hbel (Nat.le_refl _)
    have BXr := HBX.out
    clear hown hbel cN cW cB cL cK cF cO cS cLw cV cT cz
    obtain ⟨cN, cW, cB, cL, cK, cF, cO, cS, cLw, cV, cT, cz⟩ := BXr
    by_cases hlt : k < len
    · obtain ⟨b, off, rfl, hbl, hcell⟩ := HI.out.cell k hlt
      obtain ⟨x, hx⟩ : ∃ x, x = vs.getD k 0 := ⟨_, rfl⟩
      rw [← hx] at hcell
      have HX : Hid (x = vs.getD k 0) := hx
      clear hx
      have hxb := vec_bd HV.out (by rw [HL.out]; exact hlt) HX.out
      obtain ⟨hx0, hx1⟩ := hxb
      have hcr : wr.cell? ⟨b, off + k, none⟩ = some (.int .i64 x) := by
        have e1 := (HBall.out.trans HB.out).cell (p := ⟨b, off + k, none⟩) (show b < w.heap.size + 2 by omega)
        have e2 := HB0.out.cell (p := ⟨b, off + k, none⟩) hbl
        rw [e1, e2]; exact hcell
      clear hcell
      go_wp2_with fail
      refine (appendNumber_int (w.heap.size + 2) _ _ x 2 2 rfl wr HO.out cz hx0 (by omega) (by omega) (by have := vecBytes_length (vs.take k); have h2 := List.length_take_le k vs; simp [HPL.out, this]; omega)).mono ?_
      rintro e w6 ⟨v6, rfl, hown6, hb6⟩
      have HO7 : Hid (Own w6 (w.heap.size + 2) v6 (pre ++ vecBytes (vs.take (k + 1)))) := by
        rw [vec_step (by rw [HL.out]; exact hlt) HX.out, ← List.append_assoc]; exact hown6
      have HB7 : Hid _ := hb6
      clear hown6 hb6
      go_wp2
      go_roundw
      case rel => exact ⟨k + 1, by omega, by go_num, HO7.out, HB.out.trans HB7.out⟩
      case measure => simp [intOf]; omega
    · have ho8 := HO.out
      rw [List.take_of_length_le (by rw [HL.out]; omega)] at ho8
      have HO8 : Hid _ := ho8
      clear HO ho8
      go_wp2_with (at_builtin; refine wpList_append_own _ rfl (.tmp 54) (.tmp 59) 241 rfl (w.heap.size + 2) 5 i0 (.int .u8 0) 1 1 Tryz.underlying241 hi hz0 hz1 hz2 rfl (by decide) _ _ _ rfl (HO8.out.alloc _) ⟨wr.heap.size, 0, none⟩ 1 1 [.int .u8 (body.size : Int)] rfl rfl ?e1 ?e2 ?e3 ?e4 ?e5 ?_)
      case e1 =>
        intro q u hq
        match q, hq with
        | 0, hq => simp at hq; subst hq; simp [Addr.add]
      case e2 => intro u hu; simp at hu; subst hu; rfl
      case e3 => have := vecBytes_length vs; have h9 := HL.out; have h8 := HPL.out; unfold maxLen; simp [h8, this]; omega
      case e4 => have := vecBytes_length vs; have h9 := HL.out; have h8 := HPL.out; simp [h8, this]; omega
      case e5 => simp; omega
      intro v9 w9 hown9 hgrow9 _
      rw [← List.length_append] at hown9
      have R9 := Own.snoc [UInt8.ofNat body.size] [Value.int .u8 (body.size : Int)] (by show _ = [Value.int .u8 ((UInt8.ofNat body.size).toNat : Int)]; have := byte_in (x := (body.size : Int)) (by omega) (by omega); rw [Int.toNat_natCast] at this; rw [← this]) 1 rfl _ HO8.out hown9 hgrow9 cz
      have HO9 : Hid _ := R9.1
      have HB9 : Hid _ := R9.2
      clear hown9 hgrow9 R9
      go_wp2
      go_ret
      refine ⟨⟨_, rfl, ?_⟩, HB0.out.trans ((HBall.out.trans (HB.out.trans HB9.out)).mono (by omega))⟩
      have h9 := HO9.out
      rw [HP.out] at h9
      have e : headBytes N 1 F O S Lw vs body.size = [] ++ [104, 115] ++ [1, UInt8.ofNat N.toNat, UInt8.ofNat F.toNat] ++ [UInt8.ofNat O.toNat] ++ num S.toNat 2 ++ num Lw.toNat 2 ++ vecBytes vs ++ [UInt8.ofNat body.size] := by
        simp [headBytes]
      rw [e]
      exact Own.mono h9 (by omega)

set_option maxRecDepth 100000 in
set_option maxHeartbeats 4000000 in
theorem appendHead_state (N W B L F O S Lw : Int) (ad : Option Addr) (len cap : Nat) (body : ByteArray) (vs : List Int) (w : World) (hi : Ints w ad len vs)
    (hN1 : 2 ≤ N) (hN2 : N ≤ 8) (hF1 : 0 ≤ F) (hF2 : F < N) (hlen : len ≤ 8) (hv : ∀ v ∈ vs, 0 ≤ v ∧ v ≤ 65535) :
    Calls Tryz.prog 181 #[.slice none 0 0, .agg #[.int .i64 N, .int .i64 W, .int .i64 B, .int .i64 L], .agg #[.int .i64 2, .int .i64 F, .int .i64 O, .int .i64 S, .int .i64 Lw, .slice ad len cap, .string body]] w fun e w' => (∃ v, e = .returned v ∧ Own w' w.heap.size v (headBytes N 2 F O S Lw vs body.size)) ∧ Below w.heap.size w w' := by
  have HI : Hid (Ints w ad len vs) := hi
  have HV : Hid (∀ v ∈ vs, 0 ≤ v ∧ v ≤ 65535) := hv
  clear hi hv
  obtain ⟨i0, hi, hz0, hz1, hz2⟩ := info_parts Tryz.infoByte
  have BX0 := boxes_start w N W B L 2 F O S Lw ad len cap body 26 45
  have HBX0 : Hid _ := BX0
  clear BX0
  have B0 := below2 w (.cells #[.int .i64 N, .int .i64 W, .int .i64 B, .int .i64 L] 26) (.cells #[.int .i64 2, .int .i64 F, .int .i64 O, .int .i64 S, .int .i64 Lw, .slice ad len cap, .string body] 45)
  have HB0 : Hid _ := B0
  clear B0
  go_enter Tryz.func181, Tryz.ntmps181
  go_wp2_with (at_builtin; refine Lib.wpList_append_own_string _ rfl (.tmp 9) _ 241 9 rfl (w.heap.size + 2) 5 i0 Tryz.underlying241 Tryz.underlying9 hi hz0 hz1 hz2 _ _ _ rfl (Own.nil _ _) _ rfl ?a1 ?a2 ?a3 ?_)
  case a1 => decide
  case a2 => decide
  case a3 => simp
  intro v1 w1 hown1 hgrow1 _
  have R1 := Own.str _ [104, 115] rfl (Own.nil _ _) hown1 hgrow1 (by simp)
  have HO1 : Hid _ := R1.1
  have HB1 : Hid _ := R1.2
  have BX1 := HBX0.out.below R1.2 (Nat.le_refl _)
  have HBX1 : Hid _ := BX1
  obtain ⟨cN, cW, cB, cL, cK, cF, cO, cS, cLw, cV, cT, cz⟩ := BX1
  clear hown1 hgrow1 R1
  go_wp2_with (at_builtin; refine wpList_append_own _ rfl (.tmp 11) (.tmp 21) 241 rfl (w.heap.size + 2) 5 i0 (.int .u8 0) 1 1 Tryz.underlying241 hi hz0 hz1 hz2 rfl (by decide) _ _ _ rfl (HO1.out.alloc _) ⟨w1.heap.size, 0, none⟩ 3 3 [.int .u8 2, .int .u8 N, .int .u8 F] rfl rfl ?b1 ?b2 ?b3 ?b4 ?b5 ?_)
  case b1 =>
    intro q u hq
    match q, hq with
    | 0, hq => simp at hq; subst hq; simp [Addr.add]
    | 1, hq => simp at hq; subst hq; simp [Addr.add]
    | 2, hq => simp at hq; subst hq; simp [Addr.add]
  case b2 => intro u hu; simp at hu; rcases hu with rfl | rfl | rfl <;> rfl
  case b3 => decide
  case b4 => decide
  case b5 => simp; omega
  intro v2 w2 hown2 hgrow2 _
  have R2 := Own.snoc [2, UInt8.ofNat N.toNat, UInt8.ofNat F.toNat] _ (by show _ = [Value.int .u8 2, .int .u8 ((UInt8.ofNat N.toNat).toNat : Int), .int .u8 ((UInt8.ofNat F.toNat).toNat : Int)]; rw [← byte_in (by omega) (by omega), ← byte_in hF1 (by omega)]) 3 rfl _ HO1.out hown2 hgrow2 cz
  have HO2 : Hid _ := R2.1
  have HB2 : Hid _ := R2.2
  have BX2 := HBX1.out.below R2.2 (Nat.le_refl _)
  have HBX2 : Hid _ := BX2
  clear cN cW cB cL cK cF cO cS cLw cV cT cz
  obtain ⟨cN, cW, cB, cL, cK, cF, cO, cS, cLw, cV, cT, cz⟩ := BX2
  clear hown2 hgrow2 R2
  obtain ⟨pre, hpre⟩ : ∃ pre, pre = [] ++ [104, 115] ++ [2, UInt8.ofNat N.toNat, UInt8.ofNat F.toNat] := ⟨_, rfl⟩
  have hpl : pre.length = 5 := by rw [hpre]; simp
  have HP : Hid (pre = [] ++ [104, 115] ++ [2, UInt8.ofNat N.toNat, UInt8.ofNat F.toNat]) := hpre
  have HO6 : Hid (Own w2 (w.heap.size + 2) v2 pre) := by rw [hpre]; exact HO2.out
  clear HO2 hpre
  have HPL : Hid (pre.length = 5) := hpl
  clear hpl
  have HBall : Hid (Below (w.heap.size + 2) ((w.alloc (.cells #[.int .i64 N, .int .i64 W, .int .i64 B, .int .i64 L] 26)).alloc (.cells #[.int .i64 2, .int .i64 F, .int .i64 O, .int .i64 S, .int .i64 Lw, .slice ad len cap, .string body] 45)) w2) := HB1.out.trans HB2.out
  clear HO1 HB1 HB2 HBX1
  have hlen8 : (len : Int) ≤ 8 := by omega
  have HL : Hid (vs.length = len) := HI.out.len
  go_wp2
  go_loopw [0, 43] (fun u c wr => ∃ k : Nat, k ≤ len ∧ c = .int .i64 k ∧ Own wr (w.heap.size + 2) u (pre ++ vecBytes (vs.take k)) ∧ Below (w.heap.size + 2) w2 wr) (fun _ c _ => len - (intOf c).toNat)
  case atStart => exact ⟨0, Nat.zero_le _, rfl, by simpa [vecBytes] using HO6.out, Below.refl _ _⟩
  case round =>
    obtain ⟨k, hk, rfl, hown, hbel⟩ := hrel
    have HO : Hid (Own wr (w.heap.size + 2) _ (pre ++ vecBytes (vs.take k))) := hown
    have HB : Hid (Below (w.heap.size + 2) w2 wr) := hbel
    have HBX : Hid _ := HBX2.out.below hbel (Nat.le_refl _)
    have BXr := HBX.out
    clear hown hbel cN cW cB cL cK cF cO cS cLw cV cT cz
    obtain ⟨cN, cW, cB, cL, cK, cF, cO, cS, cLw, cV, cT, cz⟩ := BXr
    by_cases hlt : k < len
    · obtain ⟨b, off, rfl, hbl, hcell⟩ := HI.out.cell k hlt
      obtain ⟨x, hx⟩ : ∃ x, x = vs.getD k 0 := ⟨_, rfl⟩
      rw [← hx] at hcell
      have HX : Hid (x = vs.getD k 0) := hx
      clear hx
      have hxb := vec_bd HV.out (by rw [HL.out]; exact hlt) HX.out
      obtain ⟨hx0, hx1⟩ := hxb
      have hcr : wr.cell? ⟨b, off + k, none⟩ = some (.int .i64 x) := by
        have e1 := (HBall.out.trans HB.out).cell (p := ⟨b, off + k, none⟩) (show b < w.heap.size + 2 by omega)
        have e2 := HB0.out.cell (p := ⟨b, off + k, none⟩) hbl
        rw [e1, e2]; exact hcell
      clear hcell
      go_wp2_with fail
      refine (appendNumber_int (w.heap.size + 2) _ _ x 2 2 rfl wr HO.out cz hx0 (by omega) (by omega) (by have := vecBytes_length (vs.take k); have h2 := List.length_take_le k vs; simp [HPL.out, this]; omega)).mono ?_
      rintro e w6 ⟨v6, rfl, hown6, hb6⟩
      have HO7 : Hid (Own w6 (w.heap.size + 2) v6 (pre ++ vecBytes (vs.take (k + 1)))) := by
        rw [vec_step (by rw [HL.out]; exact hlt) HX.out, ← List.append_assoc]; exact hown6
      have HB7 : Hid _ := hb6
      clear hown6 hb6
      go_wp2
      go_roundw
      case rel => exact ⟨k + 1, by omega, by go_num, HO7.out, HB.out.trans HB7.out⟩
      case measure => simp [intOf]; omega
    · have ho8 := HO.out
      rw [List.take_of_length_le (by rw [HL.out]; omega)] at ho8
      have HO8 : Hid _ := ho8
      clear HO ho8
      go_wp2
      go_ret
      refine ⟨⟨_, rfl, ?_⟩, HB0.out.trans ((HBall.out.trans HB.out).mono (by omega))⟩
      have h9 := HO8.out
      rw [HP.out] at h9
      have e : headBytes N 2 F O S Lw vs body.size = [] ++ [104, 115] ++ [2, UInt8.ofNat N.toNat, UInt8.ofNat F.toNat] ++ vecBytes vs := by
        simp [headBytes]
      rw [e]
      exact Own.mono h9 (by omega)
end Go.Proofs.YtabecbjfamphbaaGreatDoor

/- The walk of the program's Encode. -/
namespace Go.Proofs.YtabecbjfamphbaaGreatDoor
open Go.RowKit Go.Stop Go.Extern

/-- append of a text onto a slice of the call's own, as one step of a region that draws its order. -/
theorem step_append_string {ops : Array Oper} {o : Oper} {a : Act} {w : World} {K : Act → World → Prop} {Q : Exit → Act → World → Prop} {E : Prop}
    (hg : o.guard = none) (sl x : Operand) (hop : o.op = Op.call { callee := Callee.builtin Builtin.append, args := #[sl, x], argTypes := #[241, 9] })
    (base : Nat) (v : Value) (l : List UInt8) (hs : a.eval sl = v) (hown : Own w base v l) (s : ByteArray) (hx : a.eval x = .string s)
    (hb1 : l.length ≤ 1000) (hb2 : s.size ≤ 1000) (hbase : base ≤ w.heap.size)
    (hK : ∀ v' w', Own w' base v' (l ++ s.data.toList) → Below base w w' → K (a.put o.dst v') w') :
    if Region.wanted o (yielded ops a.tmps) = true then Oper.wp Tryz.prog o a w K Q else E := by
  have hw : Region.wanted o (yielded ops a.tmps) = true := by simp [Region.wanted, hg]
  rw [if_pos hw]
  obtain ⟨i0, hi, hz0, hz1, hz2⟩ := info_parts Tryz.infoByte
  obtain ⟨v', w', hrun, r1, r2, _⟩ := Lib.run_append_own_string (P := Tryz.prog) w base 241 9 o.type 5 i0 Tryz.underlying241 Tryz.underlying9 hi hz0 hz1 hz2 v l.length (bcells l) hown s (by unfold maxLen; omega) (by omega) hbase
  have R := Own.str s s.data.toList (by simp [txt]) hown r1 r2 hbase
  unfold Oper.wp
  simp [execOp, hop, resolve, invoke, builtin, hs, hx, hrun, Result.andThen]
  exact hK v' w' R.1 R.2

/-- P5: the bytes of a frame. -/
def frameBytes (N K F O S Lw : Int) (vs : List Int) (body : ByteArray) : List UInt8 :=
  headBytes N K F O S Lw vs body.size ++ body.data.toList ++ num (Crc.sum (headBytes N K F O S Lw vs body.size ++ body.data.toList)) 4

/-- What the rules give, when they refuse nothing. -/
structure Fits (N W B L K F O S Lw : Int) (vs : List Int) (body : ByteArray) : Prop where
  from0 : 0 ≤ F
  from1 : F < N
  len : (vs.length : Int) = N
  vec : ∀ v ∈ vs, 0 ≤ v ∧ v ≤ L
  kind : (K = 2 ∧ O = 0 ∧ S = 0 ∧ Lw = 0 ∧ body.size = 0) ∨ (K = 1 ∧ 0 ≤ O ∧ O < N ∧ 1 ≤ S ∧ S ≤ L ∧ 0 ≤ Lw ∧ Lw < S ∧ S - W ≤ Lw ∧ vs.getD O.toNat 0 = S - 1 ∧ (body.size : Int) ≤ B)

theorem vfirst_none {L K O S : Int} {vs : List Int} (h : vfirst L K O S vs = none) : ∀ i, i < vs.length → vbad L K O S i (vs.getD i 0) = false := by
  intro i hi
  unfold vfirst at h
  rw [List.find?_eq_none] at h
  have := h i (by simpa using hi)
  simpa using this
theorem rVec_yes {N L K O S : Int} {vs : List Int} (h : rVec N L K O S vs = none) : (vs.length : Int) = N ∧ ∀ i, i < vs.length → vbad L K O S i (vs.getD i 0) = false := by
  unfold rVec at h
  split at h
  · rename_i hl
    refine ⟨hl, vfirst_none ?_⟩
    cases hv : vfirst L K O S vs with
    | none => rfl
    | some i => rw [hv] at h; cases h
  · cases h
theorem vec_all {L K O S : Int} {vs : List Int} (h : ∀ i, i < vs.length → vbad L K O S i (vs.getD i 0) = false) : ∀ v ∈ vs, 0 ≤ v ∧ v ≤ L := by
  intro v hv
  obtain ⟨i, hi, rfl⟩ := List.mem_iff_getElem.1 hv
  have := of_decide_eq_false (h i hi)
  rw [List.getD_eq_getElem?_getD, List.getElem?_eq_getElem hi] at this
  simp only [Option.getD_some] at this
  omega
theorem isEmpty_size (b : ByteArray) : b.toList.isEmpty = true ↔ b.size = 0 := by
  rw [ByteArray.toList_eq, List.isEmpty_iff_length_eq_zero, Array.length_toList]
  exact Iff.rfl
theorem fits_of {N W B L K F O S Lw : Int} {vs : List Int} {body : ByteArray} (h : rFrame N W B L K F O S Lw vs body = none) : Fits N W B L K F O S Lw vs body := by
  unfold rFrame at h
  cases hk : rKind K with
  | some x => rw [hk] at h; cases h
  | none =>
    rw [hk] at h
    cases hf : rFrom N F with
    | some x => rw [hf] at h; cases h
    | none =>
      rw [hf] at h
      have hF : 0 ≤ F ∧ F < N := by
        by_cases c : 0 ≤ F ∧ F < N
        · exact c
        · unfold rFrom at hf; rw [if_neg c] at hf; cases hf
      have hK : K = 1 ∨ K = 2 := by
        by_cases c : K = 1 ∨ K = 2
        · exact c
        · unfold rKind at hk; rw [if_neg c] at hk; cases hk
      by_cases h2 : K = 2
      · simp only [if_pos h2] at h
        unfold rState at h
        by_cases c : O = 0 ∧ S = 0 ∧ Lw = 0 ∧ body.toList.isEmpty = true
        · rw [if_pos c] at h
          obtain ⟨hl, hv⟩ := rVec_yes h
          exact ⟨hF.1, hF.2, hl, vec_all hv, Or.inl ⟨h2, c.1, c.2.1, c.2.2.1, (isEmpty_size body).1 c.2.2.2⟩⟩
        · rw [if_neg c] at h; cases h
      · simp only [if_neg h2] at h
        have h1 : K = 1 := by omega
        unfold rData at h
        by_cases c1 : 0 ≤ O ∧ O < N
        · rw [if_neg (by simpa using c1)] at h
          by_cases c2 : S < 1 ∨ L < S
          · rw [if_pos c2] at h; cases h
          · rw [if_neg c2] at h
            by_cases c3 : Lw < 0 ∨ S ≤ Lw ∨ Lw < S - W
            · rw [if_pos c3] at h; cases h
            · rw [if_neg c3] at h
              cases hv : rVec N L K O S vs with
              | some x => rw [hv] at h; cases h
              | none =>
                rw [hv] at h
                obtain ⟨hl, hvv⟩ := rVec_yes hv
                by_cases c4 : B < (body.size : Int)
                · simp only [if_pos c4] at h; cases h
                · have hO := of_decide_eq_false (hvv O.toNat (by omega))
                  exact ⟨hF.1, hF.2, hl, vec_all hvv, Or.inr ⟨h1, c1.1, c1.2, by omega, by omega, by omega, by omega, by omega, by omega, by omega⟩⟩
        · rw [if_pos c1] at h; cases h
theorem vec_good {L K O S : Int} {vs : List Int} (h : ∀ v ∈ vs, 0 ≤ v ∧ v ≤ L) (hO : K = 1 → 0 ≤ O ∧ vs.getD O.toNat 0 = S - 1) : ∀ i, i < vs.length → vbad L K O S i (vs.getD i 0) = false := by
  intro i hi
  apply decide_eq_false
  have hm := h (vs.getD i 0) (by rw [List.getD_eq_getElem?_getD, List.getElem?_eq_getElem hi]; exact List.getElem_mem hi)
  rintro (c | c | ⟨k1, e, ne⟩)
  · omega
  · omega
  · obtain ⟨o0, o1⟩ := hO k1
    have : O.toNat = i := by omega
    rw [this] at o1
    exact ne o1
theorem of_fits {N W B L K F O S Lw : Int} {vs : List Int} {body : ByteArray} (h : Fits N W B L K F O S Lw vs body) : rFrame N W B L K F O S Lw vs body = none := by
  unfold rFrame
  have hf : rFrom N F = none := if_pos ⟨h.from0, h.from1⟩
  rcases h.kind with ⟨k2, o, sq, lw, bd⟩ | ⟨k1, o0, o1, s1, s2, l0, l1, l2, hv, bd⟩
  · have hk : rKind K = none := if_pos (Or.inr k2)
    rw [hk, hf]
    simp only [if_pos k2]
    unfold rState
    rw [if_pos ⟨o, sq, lw, (isEmpty_size body).2 bd⟩]
    exact rVec_none h.len (vec_good h.vec (fun c => by omega))
  · have hk : rKind K = none := if_pos (Or.inl k1)
    rw [hk, hf]
    simp only [if_neg (show ¬ K = 2 by omega)]
    unfold rData
    rw [if_neg (fun c => c ⟨o0, o1⟩), if_neg (by omega), if_neg (by omega), rVec_none h.len (vec_good h.vec (fun _ => ⟨o0, hv⟩))]
    simp only [if_neg (show ¬ B < (body.size : Int) by omega)]

/-- P5: what Encode answers. -/
def encR (N W B L K F O S Lw : Int) (vs : List Int) (body : ByteArray) : List UInt8 × Int :=
  if okG N W B L then (if rFrame N W B L K F O S Lw vs body = none then (frameBytes N K F O S Lw vs body, 0) else ([], 5)) else ([], 1)

theorem appendHead_fits (N W B L K F O S Lw : Int) (ad : Option Addr) (len cap : Nat) (body : ByteArray) (vs : List Int) (w : World) (hi : Ints w ad len vs) (hG : okG N W B L = true) (hf : Fits N W B L K F O S Lw vs body) :
    Calls Tryz.prog 181 #[.slice none 0 0, .agg #[.int .i64 N, .int .i64 W, .int .i64 B, .int .i64 L], .agg #[.int .i64 K, .int .i64 F, .int .i64 O, .int .i64 S, .int .i64 Lw, .slice ad len cap, .string body]] w fun e w' => (∃ v, e = .returned v ∧ Own w' w.heap.size v (headBytes N K F O S Lw vs body.size)) ∧ Below w.heap.size w w' := by
  obtain ⟨h1, h2, h3, h4, h5, h6, h7, h8⟩ := okG_iff.1 hG
  have hlen := hf.len
  have hl := hi.len
  have hv : ∀ v ∈ vs, 0 ≤ v ∧ v ≤ 65535 := fun v hv => by have := hf.vec v hv; omega
  have f0 := hf.from0
  have f1 := hf.from1
  rcases hf.kind with ⟨rfl, o, sq, lw, bd⟩ | ⟨rfl, o0, o1, s1, s2, l0, l1, l2, hv2, bd⟩
  · exact appendHead_state N W B L F O S Lw ad len cap body vs w hi h1 h2 f0 f1 (by omega) hv
  · exact appendHead_data N W B L F O S Lw ad len cap body vs w hi h1 h2 f0 f1 o0 o1 s1 (by omega) l0 l1 (by omega) (by omega) hv
theorem head_length {N W B L K F O S Lw : Int} {vs : List Int} {body : ByteArray} (hG : okG N W B L = true) (hf : Fits N W B L K F O S Lw vs body) (n : Nat) : (headBytes N K F O S Lw vs n).length ≤ 27 := by
  obtain ⟨h1, h2, h3, h4, h5, h6, h7, h8⟩ := okG_iff.1 hG
  have hlen := hf.len
  have hv := vecBytes_length vs
  unfold headBytes
  by_cases h : K = 1
  · simp only [if_pos h, List.length_append, List.length_cons, List.length_nil, num_length, hv]; omega
  · simp only [if_neg h, List.length_append, List.length_cons, List.length_nil, hv]; omega
theorem body_length {N W B L K F O S Lw : Int} {vs : List Int} {body : ByteArray} (hG : okG N W B L = true) (hf : Fits N W B L K F O S Lw vs body) : body.size ≤ 40 := by
  obtain ⟨h1, h2, h3, h4, h5, h6, h7, h8⟩ := okG_iff.1 hG
  rcases hf.kind with ⟨_, o, sq, lw, bd⟩ | ⟨_, o0, o1, s1, s2, l0, l1, l2, hv2, bd⟩
  · omega
  · omega

set_option maxRecDepth 100000 in
set_option maxHeartbeats 4000000 in
theorem wireEncode_any (a0 a1 : Addr) (N W B L K F O S Lw : Int) (ad : Option Addr) (len cap : Nat) (body : ByteArray) (vs : List Int) (w : World) (hw : Sent w a0 a1) (hi : Ints w ad len vs)
    (hl : len ≤ maxLen) (hbd : body.size ≤ maxLen) :
    Calls Tryz.prog 139 #[.agg #[.int .i64 N, .int .i64 W, .int .i64 B, .int .i64 L], .agg #[.int .i64 K, .int .i64 F, .int .i64 O, .int .i64 S, .int .i64 Lw, .slice ad len cap, .string body]] w fun e w' => (∃ v, e = .returned (.tuple #[.string (txt (encR N W B L K F O S Lw vs body).1), v]) ∧ IsErr a0 a1 v (encR N W B L K F O S Lw vs body).2) ∧ Below w.heap.size w w' := by
  have HW : Hid (Sent w a0 a1) := hw
  have HI : Hid (Ints w ad len vs) := hi
  have HLm : Hid (len ≤ maxLen) := hl
  have HBd : Hid (body.size ≤ maxLen) := hbd
  clear hw hi hl hbd
  have HBX0 : Hid _ := boxes_start w N W B L K F O S Lw ad len cap body 26 45
  go_enter Tryz.func139, Tryz.ntmps139
  go_wp2_with fail
  refine (groupCheck_any a0 a1 N W B L _ ((HW.out.alloc _).alloc _)).mono ?_
  rintro e w1 ⟨⟨v, rfl, hv, hv0⟩, hb⟩
  have HB : Hid _ := hb
  have BX1 := HBX0.out.below hb (by simp)
  have HBX1 : Hid _ := BX1
  obtain ⟨cN, cW, cB, cL, cK, cF, cO, cS, cLw, cV, cT, cz⟩ := BX1
  clear hb
  by_cases hG : okG N W B L = true
  · obtain rfl := hv0 hG
    clear hv hv0
    go_wp2_with fail
    refine (checkFrame_any a0 a1 N W B L K F O S Lw ad len cap body vs _ (((HW.out.alloc _).alloc _).below HB.out) (((HI.out.alloc _).alloc _).below HB.out) hG HLm.out HBd.out).mono ?_
    rintro e w2 ⟨⟨v, rfl, hv⟩, hb2⟩
    have HB2 : Hid _ := hb2
    have BX2 := HBX1.out.below hb2 cz
    have HBX2 : Hid _ := BX2
    clear cN cW cB cL cK cF cO cS cLw cV cT cz
    obtain ⟨cN, cW, cB, cL, cK, cF, cO, cS, cLw, cV, cT, cz⟩ := BX2
    clear hb2
    cases hr : rFrame N W B L K F O S Lw vs body with
    | some x =>
      have HE : Hid (encR N W B L K F O S Lw vs body = ([], 5)) := by show encR N W B L K F O S Lw vs body = _; unfold encR; rw [if_pos hG, if_neg (by rw [hr]; simp)]
      rw [hr] at hv
      have HV : Hid (IsF a1 v (some x)) := hv
      obtain ⟨t, y, rfl⟩ := hv.nil_iff.2 x rfl
      clear hv hr hG
      go_wp2
      go_ret2
      rw [HE.out]
      exact ⟨⟨_, rfl, HV.out.err⟩, bthen (bthen (below2 _ _ _) HB.out) HB2.out⟩
    | none =>
      have HE : Hid (encR N W B L K F O S Lw vs body = (frameBytes N K F O S Lw vs body, 0)) := by show encR N W B L K F O S Lw vs body = _; unfold encR; rw [if_pos hG, if_pos hr]
      rw [hr] at hv
      obtain rfl := hv.nil_iff.1 rfl
      have HF : Hid (Fits N W B L K F O S Lw vs body) := fits_of hr
      clear hv hr
      have HG : Hid (okG N W B L = true) := hG
      have hbl := body_length hG HF.out
      clear hG
      have HI2 : Hid (Ints w2.drew ad len vs) := ((((HI.out.alloc _).alloc _).below HB.out).below HB2.out).drew
      have HBX2d : Hid _ := HBX2.out.below ((Below.refl w2.heap.size w2).drew) cz
      go_wp2
      go_region_law (first
        | (refine step_append_string rfl (.tmp 22) (.tmp 24) rfl w2.heap.size v3 _ (by simp [Act.eval]) HO3.out body (by simp [Act.eval]) (Nat.le_trans (head_length HG.out HF.out _) (by decide)) (by omega) hz3 ?_; intro v4 w4 ho4 hb4; have HO4 : Hid _ := ho4; have HB4 : Hid _ := hb4; clear ho4 hb4)
        | (go_simp; refine (appendHead_fits N W B L K F O S Lw ad len cap body vs _ HI2.out HG.out HF.out).mono ?_; rintro e w3 ⟨⟨v3, rfl, ho3⟩, hb3⟩; have HO3 : Hid _ := ho3; have HB3 : Hid _ := hb3; have hz3 := hb3.size; have ct3 := (HBX2d.out.below hb3 cz).t; clear ho3 hb3))
      all_goals
        have hcv := Own.string HO4.out
        have hln : (headBytes N K F O S Lw vs body.size ++ body.data.toList).length ≤ 67 := by
          have := head_length HG.out HF.out body.size
          simp only [List.length_append, Array.length_toList]
          show _ + body.size ≤ 67
          omega
        have HLN : Hid _ := hln
        clear hln
        have hz4 : w2.heap.size ≤ w4.heap.size := Nat.le_trans hz3 HB4.out.size
        have HSum : Hid (Crc.sum (txt (headBytes N K F O S Lw vs body.size ++ body.data.toList)).data.toList = Crc.sum (headBytes N K F O S Lw vs body.size ++ body.data.toList)) := by show _ = _; rw [txt_data]
        go_wp2_with fail
        refine (wireSum_any _ _ (by rw [txt_size]; exact Nat.le_trans HLN.out (by decide))).mono ?_
        rintro e w5 ⟨rfl, rfl⟩
        rw [HSum.out]
        go_wp2_with fail
        refine (appendNumber_int w2.heap.size v4 _ _ 4 4 rfl _ HO4.out hz4 (by omega) (by have := Crc.sum_lt (headBytes N K F O S Lw vs body.size ++ body.data.toList); omega) (by omega) (Nat.le_trans HLN.out (by decide))).mono ?_
        rintro e w6 ⟨v6, rfl, ho6, hb6⟩
        rw [Int.toNat_natCast] at ho6
        have hcv6 := Own.string ho6
        have HB6 : Hid _ := hb6
        clear ho6 hb6 hcv
        go_wp2
        go_ret2
        rw [HE.out]
        unfold frameBytes
        simp only [List.append_assoc]
        refine ⟨⟨_, rfl, ⟨Or.inl ⟨rfl, rfl⟩⟩⟩, bthen (bthen (below2 _ _ _) HB.out) (bthen HB2.out ?_)⟩
        exact ((Below.refl w2.heap.size w2).drew).trans (HB3.out.trans (HB4.out.trans HB6.out))
  · have HE : Hid (encR N W B L K F O S Lw vs body = ([], 1)) := by show encR N W B L K F O S Lw vs body = _; unfold encR; rw [if_neg hG]
    rw [if_neg hG] at hv
    have HV : Hid (IsErr a0 a1 v 1) := hv
    have hne : ∃ t y, v = .iface t y := by
      rcases hv.how with ⟨_, h⟩ | ⟨s, rfl, _⟩ | ⟨s, rfl, _⟩ | ⟨p, s, rfl, _⟩
      · omega
      · exact ⟨_, _, rfl⟩
      · exact ⟨_, _, rfl⟩
      · exact ⟨_, _, rfl⟩
    obtain ⟨t, y, rfl⟩ := hne
    clear hv hv0 hG
    go_wp2
    go_ret2
    rw [HE.out]
    exact ⟨⟨_, rfl, HV.out⟩, bthen (below2 _ _ _) HB.out⟩
end Go.Proofs.YtabecbjfamphbaaGreatDoor

/- The node's text: a frame's text. -/
namespace Go.Proofs.YtabecbjfamphbaaGreatDoor
open Go.RowKit Go.Stop Go.Extern

/-- The text of a frame. -/
def textOf (n : Nat) (W B L : Int) (f : Fr) : ByteArray := txt (encR n W B L f.kind f.frm f.org f.seq f.low f.vec f.body).1
set_option maxRecDepth 100000 in
set_option maxHeartbeats 1000000 in
theorem text_any (a0 a1 : Addr) (b n : Nat) (W B L : Int) (p gv : Nat) (f : Fr) (w : World) (hw : Sent w a0 a1) (hb : NB w b n W B L p gv) (hi : Ints w f.ad n f.vec) (hn : n ≤ 8) (hbd : f.body.size ≤ maxLen) :
    Calls Tryz.prog 153 #[.pointer (some ⟨b, 0, none⟩), Fr.agg n f] w fun e w' => e = .returned (.string (textOf n W B L f)) ∧ Below w.heap.size w w' := by
  have HE : Hid (∀ x, Below w.heap.size w x → Calls Tryz.prog 139 #[.agg #[.int .i64 n, .int .i64 W, .int .i64 B, .int .i64 L], .agg #[.int .i64 f.kind, .int .i64 f.frm, .int .i64 f.org, .int .i64 f.seq, .int .i64 f.low, .slice f.ad n f.cap, .string f.body]] x fun e w' => (∃ v, e = .returned (.tuple #[.string (textOf n W B L f), v])) ∧ Below x.heap.size x w') := fun x hx => (wireEncode_any a0 a1 n W B L f.kind f.frm f.org f.seq f.low f.ad n f.cap f.body f.vec x (hw.below hx) (hi.below hx) (by unfold maxLen; omega) hbd).mono (by
    rintro e w' ⟨⟨v, rfl, _⟩, h⟩
    exact ⟨⟨v, rfl⟩, h⟩)
  have hal := below1 w (.cells #[.int .i64 f.kind, .int .i64 f.frm, .int .i64 f.org, .int .i64 f.seq, .int .i64 f.low, .slice f.ad n f.cap, .string f.body] 45)
  have hsv := seven_alloc w (.int .i64 f.kind) (.int .i64 f.frm) (.int .i64 f.org) (.int .i64 f.seq) (.int .i64 f.low) (.slice f.ad n f.cap) (.string f.body) 45
  have hb' := hb.alike (E := fun _ => False) (Alike.of_below hal _) (fun h => h)
  have HAL : Hid _ := hal
  obtain ⟨c0, c1, c2, c3, c4, c5, _⟩ := hb'
  clear hw hb hi hal
  generalize textOf n W B L f = tx at *
  unfold Fr.agg
  go_enter Tryz.func153, Tryz.ntmps153
  go_wp2_with fail
  generalize w.alloc (.cells #[.int .i64 f.kind, .int .i64 f.frm, .int .i64 f.org, .int .i64 f.seq, .int .i64 f.low, .slice f.ad n f.cap, .string f.body] 45) = X at *
  obtain ⟨s0, s1, s2, s3, s4, s5, s6, sz⟩ := hsv
  have hbX : b < X.heap.size := lt_of_cell c0
  go_region_held3 (fun x => x.cell? ⟨b, 0, none⟩ = some (.int .i64 (n : Int)) ∧ x.cell? ⟨b, 1, none⟩ = some (.int .i64 W) ∧ x.cell? ⟨b, 2, none⟩ = some (.int .i64 B) ∧ x.cell? ⟨b, 3, none⟩ = some (.int .i64 L) ∧ x.cell? ⟨w.heap.size, 0, none⟩ = some (.int .i64 f.kind) ∧ x.cell? ⟨w.heap.size, 1, none⟩ = some (.int .i64 f.frm) ∧ x.cell? ⟨w.heap.size, 2, none⟩ = some (.int .i64 f.org) ∧ x.cell? ⟨w.heap.size, 3, none⟩ = some (.int .i64 f.seq) ∧ x.cell? ⟨w.heap.size, 4, none⟩ = some (.int .i64 f.low) ∧ x.cell? ⟨w.heap.size, 5, none⟩ = some (.slice f.ad n f.cap) ∧ x.cell? ⟨w.heap.size, 6, none⟩ = some (.string f.body))
    (first | (exact ⟨c0, c1, c2, c3, s0, s1, s2, s3, s4, s5, s6⟩) | (exact ⟨(HB1.out.cell (p := ⟨b, 0, none⟩) hbX).trans c0, (HB1.out.cell (p := ⟨b, 1, none⟩) hbX).trans c1, (HB1.out.cell (p := ⟨b, 2, none⟩) hbX).trans c2, (HB1.out.cell (p := ⟨b, 3, none⟩) hbX).trans c3, (HB1.out.cell (p := ⟨w.heap.size, 0, none⟩) sz).trans s0, (HB1.out.cell (p := ⟨w.heap.size, 1, none⟩) sz).trans s1, (HB1.out.cell (p := ⟨w.heap.size, 2, none⟩) sz).trans s2, (HB1.out.cell (p := ⟨w.heap.size, 3, none⟩) sz).trans s3, (HB1.out.cell (p := ⟨w.heap.size, 4, none⟩) sz).trans s4, (HB1.out.cell (p := ⟨w.heap.size, 5, none⟩) sz).trans s5, (HB1.out.cell (p := ⟨w.heap.size, 6, none⟩) sz).trans s6⟩) | go_keep)
    (first | (go_at_call 139; refine (HE.out _ HAL.out.drew).mono ?_; rintro e w1 ⟨⟨v, rfl⟩, hb1⟩; have HB1 : Hid (Below X.heap.size X w1) := (Below.refl _ _).drew.trans hb1; clear hb1))
  go_wp2_with fail
  go_ret
  exact ⟨rfl, bthen HAL.out HB1.out⟩
end Go.Proofs.YtabecbjfamphbaaGreatDoor

/- The node's passOn: a word to the others. -/
namespace Go.Proofs.YtabecbjfamphbaaGreatDoor
open Go.RowKit Go.Stop Go.Extern

/-- A packet. -/
structure Pk where
  to : Int
  text : ByteArray
def Pk.cells (x : Pk) : List Value := [.int .i64 x.to, .string x.text]
def prow (ps : List Pk) : List Value := ps.flatMap Pk.cells
theorem prow_append (a b : List Pk) : prow (a ++ b) = prow a ++ prow b := by simp [prow]
/-- Packets in memory, above a bound. -/
structure Pks (w : World) (base : Nat) (v : Value) (ps : List Pk) : Prop where
  own : w.ownsRow base 109 2 v ps.length (prow ps)
/-- To whom a word goes, of the first k nodes. -/
def passL (tx : ByteArray) (p o fr : Int) (k : Nat) : List Pk := ((List.range k).filter (fun (q : Nat) => decide ((q : Int) ≠ p ∧ (q : Int) ≠ o ∧ (q : Int) ≠ fr))).map (fun (q : Nat) => ⟨(q : Int), tx⟩)
theorem Pks.block {w : World} {base : Nat} {v : Value} {ps : List Pk} (h : Pks w base v ps) : ∀ k, v.ownBlock = some k → base ≤ k := by
  intro k hk
  rcases h.own.2 with ⟨rfl, _⟩ | ⟨g, cap, cur, rfl, hg, _⟩
  · cases hk
  · cases hk
    exact hg
theorem Pks.mono {w : World} {b b' : Nat} {v : Value} {ps : List Pk} (h : Pks w b v ps) (hb : b' ≤ b) : Pks w b' v ps := by
  refine ⟨h.own.1, ?_⟩
  rcases h.own.2 with h2 | ⟨g, cap, cur, hv, hg, r⟩
  · exact Or.inl h2
  · exact Or.inr ⟨g, cap, cur, hv, Nat.le_trans hb hg, r⟩
theorem rowShaped {w : World} {base : Nat} {e : TypeId} {size : Nat} {v : Value} {n : Nat} {xs : List Value} (h : w.ownsRow base e size v n xs) : ∃ a c, v = .slice a n c := by
  rcases h.2 with ⟨rfl, rfl⟩ | ⟨g, cap, cur, rfl, _⟩
  · exact ⟨_, _, rfl⟩
  · exact ⟨_, _, rfl⟩
theorem Pks.nil (w : World) (base : Nat) : Pks w base (.slice none 0 0) [] := ⟨World.ownsRow_nil _ _ _ _⟩
theorem passL_no {tx : ByteArray} {p o fr : Int} {k : Nat} (h : ¬ ((k : Int) ≠ p ∧ (k : Int) ≠ o ∧ (k : Int) ≠ fr)) : passL tx p o fr (k + 1) = passL tx p o fr k := by
  unfold passL
  rw [List.range_succ, List.filter_append]
  simp only [List.filter_cons, List.filter_nil, decide_eq_false h]
  simp
theorem passL_yes {tx : ByteArray} {p o fr : Int} {k : Nat} (h : (k : Int) ≠ p ∧ (k : Int) ≠ o ∧ (k : Int) ≠ fr) : passL tx p o fr (k + 1) = passL tx p o fr k ++ [⟨(k : Int), tx⟩] := by
  unfold passL
  rw [List.range_succ, List.filter_append]
  simp only [List.filter_cons, List.filter_nil, decide_eq_true h]
  simp
theorem passL_length (tx : ByteArray) (p o fr : Int) (k : Nat) : (passL tx p o fr k).length ≤ k := by
  unfold passL
  rw [List.length_map]
  exact Nat.le_trans (List.length_filter_le _ _) (by simp)
theorem Tryz.packetInfo : (Tryz.prog.info? 109).map (fun i => (i.zero, i.size, i.bytes)) = some (some (.agg #[.int .i64 0, .string ⟨#[]⟩]), 2, 24) := by kernel_rfl

set_option maxRecDepth 100000 in
set_option maxHeartbeats 1000000 in
theorem passOn_any (a0 a1 : Addr) (b n : Nat) (W B L : Int) (p gv : Nat) (f : Fr) (fr : Int) (w : World) (hw : Sent w a0 a1) (hb : NB w b n W B L p gv) (hi : Ints w f.ad n f.vec) (hn : n ≤ 8) (hbd : f.body.size ≤ maxLen) :
    Calls Tryz.prog 151 #[.pointer (some ⟨b, 0, none⟩), Fr.agg n f, .int .i64 fr] w fun e w' => (∃ v, e = .returned v ∧ Pks w' w.heap.size v (passL (textOf n W B L f) p f.org fr n)) ∧ Below w.heap.size w w' := by
  have HT : Hid (∀ x, Below w.heap.size w x → Calls Tryz.prog 153 #[.pointer (some ⟨b, 0, none⟩), .agg #[.int .i64 f.kind, .int .i64 f.frm, .int .i64 f.org, .int .i64 f.seq, .int .i64 f.low, .slice f.ad n f.cap, .string f.body]] x fun e w' => e = .returned (.string (textOf n W B L f)) ∧ Below x.heap.size x w') := fun x hx => text_any a0 a1 b n W B L p gv f x (hw.below hx) (hb.alike (E := fun _ => False) (Alike.of_below hx _) (fun h => h)) (hi.below hx) hn hbd
  have HC : Hid (∀ x, Below w.heap.size w x → x.cell? ⟨b, 0, none⟩ = some (.int .i64 (n : Int)) ∧ x.cell? ⟨b, 4, none⟩ = some (.int .i64 (p : Int))) := fun x hx => by
    have h := hb.alike (E := fun _ => False) (Alike.of_below hx _) (fun h => h)
    exact ⟨h.c0, h.c4⟩
  have hal := below1 w (.cells #[.int .i64 f.kind, .int .i64 f.frm, .int .i64 f.org, .int .i64 f.seq, .int .i64 f.low, .slice f.ad n f.cap, .string f.body] 45)
  have hsv := seven_alloc w (.int .i64 f.kind) (.int .i64 f.frm) (.int .i64 f.org) (.int .i64 f.seq) (.int .i64 f.low) (.slice f.ad n f.cap) (.string f.body) 45
  have HAL : Hid _ := hal
  have HSV : Hid _ := hsv
  clear hw hb hi hal
  generalize textOf n W B L f = tx at *
  unfold Fr.agg
  go_enter Tryz.func151, Tryz.ntmps151
  go_wp2_with fail
  generalize w.alloc (.cells #[.int .i64 f.kind, .int .i64 f.frm, .int .i64 f.org, .int .i64 f.seq, .int .i64 f.low, .slice f.ad n f.cap, .string f.body] 45) = X at *
  obtain ⟨s0, s1, s2, s3, s4, s5, s6, sz⟩ := hsv
  go_wp2_with fail
  refine (HT.out X HAL.out).mono ?_
  rintro e w1 ⟨rfl, hb1⟩
  have HB1 : Hid (Below w.heap.size w w1) := bthen HAL.out hb1
  have z1 : w.heap.size < w1.heap.size := Nat.lt_of_lt_of_le sz hb1.size
  have HS2 : Hid (w1.cell? ⟨w.heap.size, 2, none⟩ = some (.int .i64 f.org)) := (hb1.cell (p := ⟨w.heap.size, 2, none⟩) sz).trans s2
  clear s0 s1 s2 s3 s4 s5 s6 hb1 HT
  obtain ⟨c0, c4⟩ := HC.out w1 HB1.out
  go_wp2_with fail
  have HN : Hid (Pks w1 w1.heap.size (.slice none 0 0) (passL tx p f.org fr 0)) := Pks.nil _ _
  go_loopw [8, 18] (fun pv c wr => ∃ k : Nat, k ≤ n ∧ c = .int .i64 k ∧ Pks wr w1.heap.size pv (passL tx p f.org fr k) ∧ Below w1.heap.size w1 wr) (fun _ c _ => n - (intOf c).toNat)
  case atStart => exact ⟨0, Nat.zero_le _, rfl, HN.out, Below.refl _ _⟩
  case round =>
    obtain ⟨k, hkn, rfl, hps, hbel⟩ := hrel
    have HPS : Hid _ := hps
    have HBel : Hid _ := hbel
    clear hps hbel c0 c4
    by_cases hlt : k < n
    · have hki : (k : Int) < (n : Int) := by omega
      have HW : Hid (Below w.heap.size w wr) := bthen HB1.out HBel.out
      obtain ⟨c0, c4⟩ := HC.out wr HW.out
      have s2 := (HBel.out.cell (p := ⟨w.heap.size, 2, none⟩) z1).trans HS2.out
      have hzr := HBel.out.size
      by_cases hyes : (k : Int) ≠ p ∧ (k : Int) ≠ f.org ∧ (k : Int) ≠ fr
      · obtain ⟨y1, y2, y3⟩ := hyes
        have HPL : Hid _ := passL_yes (tx := tx) (k := k) ⟨y1, y2, y3⟩
        have HLn : Hid _ := passL_length tx p f.org fr k
        obtain ⟨i1, hj, hy0, hy1, hy2⟩ := info_parts Tryz.packetInfo
        obtain ⟨av, cv, hshape⟩ := rowShaped HPS.out.own
        subst hshape
        have b1 : ((k : Int) != p) = true := by simp [y1]
        have b2 : ((k : Int) != f.org) = true := by simp [y2]
        have b3 : ((k : Int) != fr) = true := by simp [y3]
        go_wp2_with (at_builtin; refine wpList_append_own _ rfl (.tmp 38) (.tmp 42) 54 rfl w1.heap.size 109 i1 _ 2 24 Tryz.underlying54 hj hy0 hy1 hy2 rfl (by decide) _ _ _ rfl (World.ownsRow.alloc HPS.out.own _) ⟨wr.heap.size, 0, none⟩ 1 1 [.int .i64 k, .string tx] rfl rfl ?c1 ?c2 (by have := HLn.out; unfold maxLen; omega) (by have := HLn.out; omega) (by simp; omega) ?_)
        case c1 =>
          intro q u hq
          match q, hq with
          | 0, hq => simp at hq; subst hq; simp [Addr.add]
          | 1, hq => simp at hq; subst hq; simp [Addr.add]
        case c2 =>
          intro u hu
          simp at hu
          rcases hu with rfl | rfl <;> rfl
        intro v4 w4 hown4 hgrow4 _
        have HG4 : Hid (Pks w4 w1.heap.size v4 (passL tx p f.org fr (k + 1))) := by
          refine ⟨?_⟩
          rw [HPL.out, prow_append, List.length_append]
          exact hown4
        have HB4 : Hid (Below w1.heap.size w1 w4) := (HBel.out.alloc hzr _).grown hgrow4 (by simp; omega) HPS.out.block
        obtain ⟨a4, c4', hg4⟩ := rowShaped hown4
        subst hg4
        clear hown4 hgrow4
        go_wp2_with fail
        go_roundw
        case rel => exact ⟨k + 1, by omega, by go_num, HG4.out, HB4.out⟩
        case measure => simp [intOf]; omega
      · have HPL : Hid _ := passL_no (tx := tx) (k := k) hyes
        obtain ⟨av, cv, hshape⟩ := rowShaped HPS.out.own
        subst hshape
        by_cases y1 : (k : Int) = p
        · have b1 : ((k : Int) != p) = false := by simp [y1]
          clear hyes y1
          go_wp2_with fail
          go_roundw
          case rel => exact ⟨k + 1, by omega, by go_num, by rw [HPL.out]; exact HPS.out, HBel.out⟩
          case measure => simp [intOf]; omega
        · have b1 : ((k : Int) != p) = true := by simp [y1]
          by_cases y2 : (k : Int) = f.org
          · have b2 : ((k : Int) != f.org) = false := by simp [y2]
            clear hyes y2
            go_wp2_with fail
            go_roundw
            case rel => exact ⟨k + 1, by omega, by go_num, by rw [HPL.out]; exact HPS.out, HBel.out⟩
            case measure => simp [intOf]; omega
          · have b2 : ((k : Int) != f.org) = true := by simp [y2]
            have y3 : (k : Int) = fr := Decidable.byContradiction fun h => hyes ⟨y1, y2, h⟩
            have b3 : ((k : Int) != fr) = false := by simp [y3]
            clear hyes y3
            go_wp2_with fail
            go_roundw
            case rel => exact ⟨k + 1, by omega, by go_num, by rw [HPL.out]; exact HPS.out, HBel.out⟩
            case measure => simp [intOf]; omega
    · have hkn' : k = n := by omega
      subst hkn'
      obtain ⟨av, cv, hshape⟩ := rowShaped HPS.out.own
      subst hshape
      go_wp2_with fail
      go_ret
      exact ⟨⟨_, rfl, HPS.out.mono (by omega)⟩, bthen HB1.out HBel.out⟩
end Go.Proofs.YtabecbjfamphbaaGreatDoor

/- The node's take: a word is heard. -/
namespace Go.Proofs.YtabecbjfamphbaaGreatDoor
open Go.RowKit Go.Stop Go.Extern

def Wd.cells (x : Wd) : List Value := [.int .i64 x.org, .int .i64 x.seq, .string x.body]
def wrow (hs : List Wd) : List Value := hs.flatMap Wd.cells
theorem wrow_append (a b : List Wd) : wrow (a ++ b) = wrow a ++ wrow b := by simp [wrow]
def Fr.word (f : Fr) : Wd := ⟨f.org, f.seq, f.body⟩
/-- The words that were heard, in memory. -/
structure Wds (w : World) (ha : Option Addr) (len cap : Nat) (hs : List Wd) : Prop where
  wlen : hs.length = len
  own : w.ownsRow 0 89 3 (.slice ha len cap) len (wrow hs)
theorem Wds.alike {w w' : World} {ad : Option Addr} {len cap : Nat} {hs : List Wd} {E : Nat → Prop} (h : Wds w ad len cap hs) (ha : Alike w w' E) (hE : ∀ g off, ad = some ⟨g, off, none⟩ → ¬ E g) : Wds w' ad len cap hs := by
  refine ⟨h.wlen, h.own.1, ?_⟩
  rcases h.own.2 with h | ⟨g, cap', cur, he, hg, hh, hr⟩
  · exact Or.inl h
  · cases he
    exact Or.inr ⟨g, cap, cur, rfl, hg, (ha.block g (lt_of_some hh) (hE g 0 rfl)).trans hh, hr⟩
theorem off_ha {w : World} {ha : Option Addr} {hlen hcap : Nat} {hs : List Wd} (hr : Wds w ha hlen hcap hs) {k : Nat} {cur : Array Value} {t : TypeId} {fz : Nat × Nat} (hk : w.heap[k]? = some (.cells cur t fz)) (ht : t ≠ 89) : ¬ onB ha k := by
  rintro ⟨off, rfl⟩
  rcases hr.own.2 with ⟨he, _⟩ | ⟨g, cap', cur', he, _, hh, _⟩
  · cases he
  · cases he
    exact ty_ne hk hh ht rfl
/-- What was heard is one longer, and little else is another. -/
structure TookIn (w w' : World) (b gp : Nat) (ha : Option Addr) (hs : List Wd) : Prop where
  how : ∃ ha' hcap', w'.cell? ⟨b, 7, none⟩ = some (.slice ha' hs.length hcap') ∧ Wds w' ha' hs.length hcap' hs ∧ ∀ k off, ha' = some ⟨k, off, none⟩ → onB ha k ∨ w.heap.size ≤ k
  rest : Alike w w' (fun k => k = b ∨ k = gp ∨ onB ha k)
  others : ∀ i v, i ≠ 7 → w.cell? ⟨b, i, none⟩ = some v → w'.cell? ⟨b, i, none⟩ = some v
  ty : ∃ cur, w'.heap[b]? = some (.cells cur 149 (0, 0))
theorem took_in {w Y Z w1 : World} {b gp g cap hlen hcap gv n : Nat} {rows : List Nat} {vs : List (List Int)} {ha : Option Addr} {hs : List Wd} {x : Wd} {u : Value} (ht : ∃ cur, w.heap[b]? = some (.cells cur 149 (0, 0))) (hbgp : b ≠ gp) (hwd : Wds w ha hlen hcap hs)
    (hwY : Alike w Y (fun k => k = gp)) (hYZ : Below Y.heap.size Y Z) (hgr : Z.grownBy w1 (Value.slice ha hlen hcap).ownBlock) (hat : (Value.slice ha hlen hcap).ownBlock = some g ∨ g = Z.heap.size)
    (how : w1.ownsRow 0 89 3 (.slice (some ⟨g, 0, none⟩) (hlen + 1) cap) (hlen + 1) (wrow hs ++ x.cells)) (hc : w1.cell? ⟨b, 7, none⟩ = some u) (hv : NVw Y gv n rows vs) (hgp : ∃ cur t, w.heap[gp]? = some (.cells cur t (0, 0)) ∧ t ≠ 89) :
    TookIn w (w1.setCell ⟨b, 7, none⟩ (.slice (some ⟨g, 0, none⟩) (hlen + 1) cap)) b gp ha (hs ++ [x]) ∧ NVw (w1.setCell ⟨b, 7, none⟩ (.slice (some ⟨g, 0, none⟩) (hlen + 1) cap)) gv n rows vs := by
  obtain ⟨cur, ht⟩ := ht
  obtain ⟨cg, tg, hgp, htg⟩ := hgp
  have hbl := lt_of_some ht
  have hsz := hYZ.size
  have hsz2 := hwY.size
  have hnb : ¬ onB ha b := off_ha hwd ht (by decide)
  have hngp : ¬ onB ha gp := off_ha hwd hgp htg
  have hrow : ∀ k, (Value.slice ha hlen hcap).ownBlock = some k → onB ha k := fun k hk => by
    rcases hwd.own.2 with ⟨he, _⟩ | ⟨g', cap', cur', he, _, _, _⟩
    · rw [he] at hk; cases hk
    · cases he
      cases hk
      exact ⟨0, rfl⟩
  have hg1 : Alike Z w1 (onB ha) := (Alike.refl Z _).trans (Alike.of_grown hgr) (fun k _ h => hrow k h)
  have hY1 : Alike Y w1 (onB ha) := (Alike.of_below hYZ _).trans hg1 (fun _ _ h => h)
  have htY : Y.heap[b]? = some (.cells cur 149 (0, 0)) := (hwY.block b hbl hbgp).trans ht
  have hty : w1.heap[b]? = some (.cells cur 149 (0, 0)) := (hY1.block b (by omega) hnb).trans htY
  have hset := Alike.setCell w1 ⟨b, 7, none⟩ (.slice (some ⟨g, 0, none⟩) (hlen + 1) cap)
  have hwdY : Wds Y ha hlen hcap hs := hwd.alike hwY (fun k off hk (he : k = gp) => hngp ⟨off, by rw [hk, he]⟩)
  have hgn : onB ha g ∨ Z.heap.size ≤ g := by
    rcases hat with h | h
    · exact Or.inl (hrow g h)
    · exact Or.inr (by omega)
  have hgb : g ≠ b := fun h => by
    subst h
    rcases hgn with h | h
    · exact hnb h
    · omega
  have hwl : (hs ++ [x]).length = hlen + 1 := by simp [hwd.wlen]
  have hW1 : Wds w1 (some ⟨g, 0, none⟩) (hlen + 1) cap (hs ++ [x]) := ⟨hwl, by rw [wrow_append]; simpa [wrow] using how⟩
  have hbgv : gv ≠ b := by
    obtain ⟨c, h⟩ := hv.ty
    exact ty_ne h htY (by decide)
  refine ⟨⟨⟨some ⟨g, 0, none⟩, cap, ?_, ?_, fun k off hk => ?_⟩, ?_, fun i v hi hvv => ?_, ⟨_, heap_setCell_same w1 b 7 cur _ _ hty⟩⟩, ?_⟩
  · rw [hwl]; go_simp
  · rw [hwl]
    refine hW1.alike hset (fun k off hk he => ?_)
    cases hk
    exact hgb he
  · cases hk
    rcases hgn with h | h
    · exact Or.inl h
    · exact Or.inr (by omega)
  · exact (((Alike.refl w _).trans hwY (fun k _ h => Or.inr (Or.inl h))).trans hY1 (fun k _ h => Or.inr (Or.inr h))).trans hset (fun k _ h => Or.inl h)
  · have h1 : w1.cell? ⟨b, i, none⟩ = some v := hY1.cell (hwY.cell hvv hbgp) hnb
    have hi' : ¬ i = 7 := hi
    have hi2 : ¬ 7 = i := fun h => hi h.symm
    go_simp
  · refine (hv.alike hY1 ?_ ?_).alike hset hbgv ?_
    · obtain ⟨c, h⟩ := hv.ty
      exact off_ha hwdY h (by decide)
    · exact fun q hq => off_ha hwdY (hv.each q hq) (by decide)
    · exact fun q hq => ty_ne (hv.each q hq) htY (by decide)

theorem Tryz.wordInfo : (Tryz.prog.info? 89).map (fun i => (i.zero, i.size, i.bytes)) = some (some (.agg #[.int .i64 0, .int .i64 0, .string ⟨#[]⟩]), 3, 32) := by kernel_rfl

set_option maxRecDepth 100000 in
set_option maxHeartbeats 1000000 in
theorem wordOf_any (n : Nat) (f : Fr) (w : World) : Calls Tryz.prog 100 #[Fr.agg n f] w fun e w' => e = .returned (.agg #[.int .i64 f.org, .int .i64 f.seq, .string f.body]) ∧ Below w.heap.size w w' := by
  unfold Fr.agg
  go_enter Tryz.func100, Tryz.ntmps100
  go_wp2_with fail
  refine bodyPost_ret (v := .agg #[.int .i64 f.org, .int .i64 f.seq, .string f.body]) (by simp [results, Tryz.results100, go_sem]) rfl ⟨rfl, below2 _ _ _⟩

set_option maxRecDepth 100000 in
set_option maxHeartbeats 2000000 in
theorem take_any (b n : Nat) (W B L : Int) (p gv : Nat) (rows : List Nat) (vs : List (List Int)) (ha : Option Addr) (hlen hcap : Nat) (hs : List Wd) (f : Fr) (o : Nat) (ho : f.org = o) (hon : o < n) (hp : p < n) (w : World) (hb : NB w b n W B L p gv) (hv : NVw w gv n rows vs) (h7 : w.cell? ⟨b, 7, none⟩ = some (.slice ha hlen hcap)) (hw : Wds w ha hlen hcap hs) (hl : hlen ≤ 1000000) :
    Calls Tryz.prog 150 #[.pointer (some ⟨b, 0, none⟩), Fr.agg n f] w fun e w' => e = .returned (.tuple #[]) ∧ TookIn w w' b (rows.getD p 0) ha (hs ++ [f.word]) ∧ NVw w' gv n rows (vset vs p o f.seq) := by
  have HTY : Hid (∃ cur, w.heap[b]? = some (.cells cur 149 (0, 0))) := hb.ty
  have HGP : Hid (∃ cur t, w.heap[rows.getD p 0]? = some (.cells cur t (0, 0)) ∧ t ≠ 89) := ⟨_, _, hv.each p hp, by decide⟩
  obtain ⟨kd, fm, org, seq, lo, ad, cp, vec, body⟩ := f
  simp only at ho
  subst ho
  have hal := below1 w (.cells #[.int .i64 kd, .int .i64 fm, .int .i64 (o : Int), .int .i64 seq, .int .i64 lo, .slice ad n cp, .string body] 45)
  have hsv := seven_alloc w (.int .i64 kd) (.int .i64 fm) (.int .i64 (o : Int)) (.int .i64 seq) (.int .i64 lo) (.slice ad n cp) (.string body) 45
  have hal' : Alike w _ (fun _ => False) := Alike.of_below hal _
  have hb' := hb.alike hal' (fun h => h)
  have hv' := hv.alike hal' (fun h => h) (fun _ _ h => h)
  unfold Fr.agg
  simp only
  clear hal'
  have HAL : Hid _ := hal
  clear hal
  go_enter Tryz.func150, Tryz.ntmps150
  go_wp2_with fail
  generalize w.alloc (.cells #[.int .i64 kd, .int .i64 fm, .int .i64 (o : Int), .int .i64 seq, .int .i64 lo, .slice ad n cp, .string body] 45) = X at *
  have HSv : Hid _ := hsv
  obtain ⟨s0, s1, s2, s3, s4, s5, s6, sz⟩ := hsv
  have hc := hv'.cell hp hon
  have hfz := (hv'.each p hp).free o
  have hoi : (o : Int) < (n : Int) := by omega
  have HCl : Hid (Calls Tryz.prog 102 #[.pointer (some ⟨b, 0, none⟩)] X.drew fun e w' => e = .returned (.slice (some ⟨rows.getD p 0, 0, none⟩) n n) ∧ ∃ m, w' = X.drew.drewN m) := clock_any b n W B L p gv rows vs X.drew (hb'.alike (E := fun _ => False) (Alike.of_below (Below.refl _ _).drew _) (fun h => h)) (hv'.alike (E := fun _ => False) (Alike.of_below (Below.refl _ _).drew _) (fun h => h) (fun _ _ h => h)) hp
  generalize hgp : rows.getD p 0 = gp at *
  generalize hvo : vw vs p o = y at *
  have hne : w.heap.size ≠ gp := by
    intro h
    have h1 := (hv.each p hp).lt
    rw [hgp] at h1
    omega
  have hne' : gp ≠ w.heap.size := fun h => hne h.symm
  go_region_held3 (fun x => x.cell? ⟨w.heap.size, 2, none⟩ = some (.int .i64 (o : Int)) ∧ x.cell? ⟨w.heap.size, 3, none⟩ = some (.int .i64 seq)) (first | (exact ⟨s2, s3⟩) | go_keep) (first | (go_at_call 102; refine HCl.out.mono ?_; rintro e w' ⟨rfl, m, rfl⟩))
  have hXY : Alike X ((X.drewN (1 + m)).setCell ⟨gp, o, none⟩ (.int .i64 seq)) (fun k => k = gp) := (Alike.of_below (below_drewN (Below.refl _ _) _) _).trans (Alike.setCell _ _ _) (fun _ _ h => h)
  have HNVY : Hid (NVw ((X.drewN (1 + m)).setCell ⟨gp, o, none⟩ (.int .i64 seq)) gv n rows (vset vs p o seq)) := by
    have h := (hv'.alike (E := fun _ => False) (w' := X.drewN (1 + m)) (Alike.of_below (below_drewN (Below.refl _ _) _) _) (fun h => h) (fun _ _ h => h)).set (q := p) (o := o) hp seq
    rw [hgp] at h
    exact h
  have hbgp : b ≠ gp := by
    obtain ⟨cur, ht⟩ := hb.ty
    rw [← hgp]
    exact ty_ne ht (hv.each p hp) (by decide)
  generalize (X.drewN (1 + m)).setCell ⟨gp, o, none⟩ (.int .i64 seq) = Y at *
  have hbw : b < w.heap.size := lt_of_cell h7
  have h7X : X.cell? ⟨b, 7, none⟩ = some (.slice ha hlen hcap) := (HAL.out.cell (p := ⟨b, 7, none⟩) hbw).trans h7
  have h7Y : Y.cell? ⟨b, 7, none⟩ = some (.slice ha hlen hcap) := hXY.cell h7X hbgp
  have t0 := hXY.cell s0 hne
  have t1 := hXY.cell s1 hne
  have t2 := hXY.cell s2 hne
  have t3 := hXY.cell s3 hne
  have t4 := hXY.cell s4 hne
  have t5 := hXY.cell s5 hne
  have t6 := hXY.cell s6 hne
  have fY : Y.frozen? ⟨b, 7, none⟩ = false := by
    obtain ⟨cur, ht⟩ := hb'.ty
    exact hXY.frozen (lt_of_some ht) (frozen_of_row X b 7 cur _ ht) hbgp
  have hWdY : Wds Y ha hlen hcap hs := by
    refine ⟨hw.wlen, hw.own.1, ?_⟩
    rcases hw.own.2 with h | ⟨g, cap', cur, he, hg, hh, hrr⟩
    · exact Or.inl h
    · refine Or.inr ⟨g, cap', cur, he, hg, ?_, hrr⟩
      have hg1 : g ≠ gp := by rw [← hgp]; exact ty_ne hh (hv.each p hp) (by decide)
      exact (hXY.block g (Nat.lt_of_lt_of_le (lt_of_some hh) HAL.out.size) hg1).trans ((HAL.out.block g (lt_of_some hh)).trans hh)
  have HWd : Hid _ := hWdY
  have HXY : Hid _ := hXY
  have HWY : Hid (Alike w Y (fun k => k = gp)) := (Alike.of_below HAL.out _).trans hXY (fun _ _ h => h)
  clear hXY hWdY s0 s1 s2 s3 s4 s5 s6 hc hfz h7X HCl
  obtain ⟨i0, hi, hz0, hz1, hz2⟩ := info_parts Tryz.wordInfo
  have hzY : w.heap.size < Y.heap.size := lt_of_cell t0
  have hbY : b < Y.heap.size := lt_of_cell h7Y
  have HK : Hid (∀ x : World, (∀ c : Nat, c < Y.heap.size → c = w.heap.size → x.heap[c]? = Y.heap[c]?) → x.cell? ⟨w.heap.size, 0, none⟩ = some (.int .i64 kd) ∧ x.cell? ⟨w.heap.size, 1, none⟩ = some (.int .i64 fm) ∧ x.cell? ⟨w.heap.size, 2, none⟩ = some (.int .i64 (o : Int)) ∧ x.cell? ⟨w.heap.size, 3, none⟩ = some (.int .i64 seq) ∧ x.cell? ⟨w.heap.size, 4, none⟩ = some (.int .i64 lo) ∧ x.cell? ⟨w.heap.size, 5, none⟩ = some (.slice ad n cp) ∧ x.cell? ⟨w.heap.size, 6, none⟩ = some (.string body)) := fun x hx => by
    have e : ∀ i, x.cell? ⟨w.heap.size, i, none⟩ = Y.cell? ⟨w.heap.size, i, none⟩ := fun i => World.cell?_of_block (w := Y) (hx _ hzY rfl)
    exact ⟨(e 0).trans t0, (e 1).trans t1, (e 2).trans t2, (e 3).trans t3, (e 4).trans t4, (e 5).trans t5, (e 6).trans t6⟩
  have HOwn : Hid (∀ x : World, Below Y.heap.size Y x → (x.alloc (.cells #[.int .i64 (o : Int), .int .i64 seq, .string body] 89)).ownsRow 0 89 3 (.slice ha hlen hcap) hlen (wrow hs)) := fun x hx => by
    refine World.ownsRow.alloc ⟨HWd.out.own.1, ?_⟩ _
    rcases HWd.out.own.2 with h | ⟨g, cap', cur, he, hg, hh, hrr⟩
    · exact Or.inl h
    · exact Or.inr ⟨g, cap', cur, he, hg, (hx.block g (lt_of_some hh)).trans hh, hrr⟩
  have hnrow : ∀ (k : Nat) (cur : Array Value) (t : TypeId), Y.heap[k]? = some (.cells cur t (0, 0)) → t ≠ 89 → some k ≠ (Value.slice ha hlen hcap).ownBlock := fun k cur t hk ht he => by
    rcases HWd.out.own.2 with ⟨h, _⟩ | ⟨g, cap', cur', h, _, hh, _⟩
    · rw [h] at he; cases he
    · rw [h] at he
      cases he
      exact ty_ne hk hh ht rfl
  have hnb : some b ≠ (Value.slice ha hlen hcap).ownBlock := by
    obtain ⟨cur, ht⟩ := hb'.ty
    exact hnrow b cur _ ((HXY.out.block b (lt_of_some ht) hbgp).trans ht) (by decide)
  have hnz : some w.heap.size ≠ (Value.slice ha hlen hcap).ownBlock := fun he => by
    rcases HWd.out.own.2 with ⟨h, _⟩ | ⟨g, cap', cur', h, _, hh, _⟩
    · rw [h] at he; cases he
    · rcases hw.own.2 with ⟨h', _⟩ | ⟨g', cap'', cur'', h', _, hh', _⟩
      · rw [h'] at he; cases he
      · rw [h'] at he
        cases he
        exact absurd (lt_of_some hh') (Nat.lt_irrefl _)
  have hone : ∀ u ∈ ([.int .i64 (o : Int), .int .i64 seq, .string body] : List Value), u.oneCell' = true := by
    intro u hu
    simp at hu
    rcases hu with rfl | rfl | rfl <;> rfl
  have hml : hlen + 1 ≤ maxLen := by unfold maxLen; omega
  have hbw2 : b ≠ w.heap.size := by omega
  have HWo : Hid (∀ x, Calls Tryz.prog 100 #[.agg #[.int .i64 kd, .int .i64 fm, .int .i64 (o : Int), .int .i64 seq, .int .i64 lo, .slice ad n cp, .string body]] x fun e w' => e = .returned (.agg #[.int .i64 (o : Int), .int .i64 seq, .string body]) ∧ Below x.heap.size x w') := fun x => wordOf_any n ⟨kd, fm, (o : Int), seq, lo, ad, cp, vec, body⟩ x
  go_wp2_with fail
  go_region_law
    (first
      | (refine step_append_lies _ rfl (.tmp 15) (.tmp 18) 62 rfl 0 89 i0 _ 3 32 Tryz.underlying62 hi hz0 hz1 hz2 rfl (by decide) (.slice ha hlen hcap) hlen (wrow hs) (by simp [Act.eval]) (HOwn.out w' HBw.out) ⟨w'.heap.size, 0, none⟩ 1 1 [.int .i64 (o : Int), .int .i64 seq, .string body] (by simp [Act.eval]) rfl (World.news_of_block (heap_alloc_new w' _)) hone (by decide) hml (by omega) (Nat.zero_le _) _ rfl ?_; intro g cap w1 hown hgrow hat hlt; have HO1 : Hid _ := hown; have HGr : Hid _ := hgrow; have HAt : Hid _ := hat; have HG1 : Hid (∀ c : Nat, c < Y.heap.size → c = w.heap.size → w1.heap[c]? = Y.heap[c]?) := (fun c hc hcw => (hgrow.block c (Nat.lt_of_lt_of_le hc (HBw.out.alloc HBw.out.size (.cells #[.int .i64 (o : Int), .int .i64 seq, .string body] 89)).size) (by rw [hcw]; exact hnz)).trans ((HBw.out.alloc HBw.out.size (.cells #[.int .i64 (o : Int), .int .i64 seq, .string body] 89)).block c hc)); have c71 : w1.cell? ⟨b, 7, none⟩ = some (.slice ha hlen hcap) := (hgrow.cell_far ⟨b, 7, none⟩ (Nat.lt_of_lt_of_le hbY (HBw.out.alloc HBw.out.size (.cells #[.int .i64 (o : Int), .int .i64 seq, .string body] 89)).size) hnb).trans (h7a _); have f71 : w1.frozen? ⟨b, 7, none⟩ = false := (hgrow.frozen_far ⟨b, 7, none⟩ (Nat.lt_of_lt_of_le hbY (HBw.out.alloc HBw.out.size (.cells #[.int .i64 (o : Int), .int .i64 seq, .string body] 89)).size) hnb).trans (((HBw.out.alloc HBw.out.size (.cells #[.int .i64 (o : Int), .int .i64 seq, .string body] 89)).frozen (p := ⟨b, 7, none⟩) hbY).trans fY); clear hown hgrow hat hlt)
      | (go_simp; go_at_call 100; refine (HWo.out _).mono ?_; rintro e w' ⟨rfl, hbw⟩; dsimp only; have HBw : Hid (Below Y.heap.size Y w') := (Below.refl _ _).drew.trans hbw; have c7' : w'.cell? ⟨b, 7, none⟩ = some (.slice ha hlen hcap) := (HBw.out.cell (p := ⟨b, 7, none⟩) hbY).trans h7Y; have h7a : ∀ o, (w'.alloc o).cell? ⟨b, 7, none⟩ = some (.slice ha hlen hcap) := (fun o => ((HBw.out.alloc HBw.out.size o).cell (p := ⟨b, 7, none⟩) hbY).trans h7Y); clear hbw))
  all_goals
    go_wp2_with fail
    refine bodyPost_end (v := .tuple #[]) (by simp [results, Tryz.results150, go_sem]) rfl ⟨rfl, ?_⟩
    rw [hgp]
    exact took_in HTY.out hbgp hw HWY.out (HBw.out.alloc HBw.out.size _) HGr.out HAt.out HO1.out c71 HNVY.out HGP.out
end Go.Proofs.YtabecbjfamphbaaGreatDoor
