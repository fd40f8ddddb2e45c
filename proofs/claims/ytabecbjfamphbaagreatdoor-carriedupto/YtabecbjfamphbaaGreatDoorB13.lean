/-
  Texts that the proofs of this seat share, joined: Enc, Tx, Po.
-/
import Derived.Test.YtabecbjfamphbaaGreatDoorB12
import Derived.Deep.RegionLaw
import Derived.Test.YtabecbjfamphbaaGreatDoorB09
import Derived.Deep.RegionHeld3
import Derived.Maps.AppendAt
import Derived.Deep.AppendLies
/- The walk of the program's Encode. -/
namespace Go.Proofs.YtabecbjfamphbaaGreatDoor
open Go.RowKit Go.Stop Go.Extern

/-- append of a text onto a slice of the call's own, as one step of a region that draws its order. -/
theorem step_append_string {ops : Array Oper} {o : Oper} {a : Act} {w : World} {K : Act → World → Prop} {Q : Exit → Act → World → Prop} {E : Prop}
    (hg : o.guard = none) (sl x : Operand) (hop : o.op = Op.call { callee := Callee.builtin Builtin.append, args := #[sl, x], argTypes := #[241, 9] })
    (base : Nat) (v : Value) (l : List UInt8) (hs : a.eval sl = v) (hown : Own w base v l) (s : ByteArray) (hx : a.eval x = .string s)
    (hb1 : l.length ≤ 1000) (hb2 : s.size ≤ 1000) (hbase : base ≤ w.heap.size)
    (hK : ∀ v' w', Own w' base v' (l ++ s.data.toList) → Below base w w' → K (a.put o.dst v') w') :
    if Region.wanted o (yielded ops a.tmps) = true then Oper.wp Tryz.prog o a w K Q else E := by
  have hw : Region.wanted o (yielded ops a.tmps) = true := by simp [Region.wanted, hg]
  rw [if_pos hw]
  obtain ⟨i0, hi, hz0, hz1, hz2⟩ := info_parts Tryz.infoByte
  obtain ⟨v', w', hrun, r1, r2, _⟩ := Lib.run_append_own_string (P := Tryz.prog) w base 241 9 o.type 5 i0 Tryz.underlying241 Tryz.underlying9 hi hz0 hz1 hz2 v l.length (bcells l) hown s (by unfold maxLen; omega) (by omega) hbase
  have R := Own.str s s.data.toList (by simp [txt]) hown r1 r2 hbase
  unfold Oper.wp
  simp [execOp, hop, resolve, invoke, builtin, hs, hx, hrun, Result.andThen]
  exact hK v' w' R.1 R.2

/-- P5: the bytes of a frame. -/
def frameBytes (N K F O S Lw : Int) (vs : List Int) (body : ByteArray) : List UInt8 :=
  headBytes N K F O S Lw vs body.size ++ body.data.toList ++ num (Crc.sum (headBytes N K F O S Lw vs body.size ++ body.data.toList)) 4

/-- What the rules give, when they refuse nothing. -/
structure Fits (N W B L K F O S Lw : Int) (vs : List Int) (body : ByteArray) : Prop where
  from0 : 0 ≤ F
  from1 : F < N
  len : (vs.length : Int) = N
  vec : ∀ v ∈ vs, 0 ≤ v ∧ v ≤ L
  kind : (K = 2 ∧ O = 0 ∧ S = 0 ∧ Lw = 0 ∧ body.size = 0) ∨ (K = 1 ∧ 0 ≤ O ∧ O < N ∧ 1 ≤ S ∧ S ≤ L ∧ 0 ≤ Lw ∧ Lw < S ∧ S - W ≤ Lw ∧ vs.getD O.toNat 0 = S - 1 ∧ (body.size : Int) ≤ B)

theorem vfirst_none {L K O S : Int} {vs : List Int} (h : vfirst L K O S vs = none) : ∀ i, i < vs.length → vbad L K O S i (vs.getD i 0) = false := by
  intro i hi
  unfold vfirst at h
  rw [List.find?_eq_none] at h
  have := h i (by simpa using hi)
  simpa using this
theorem rVec_yes {N L K O S : Int} {vs : List Int} (h : rVec N L K O S vs = none) : (vs.length : Int) = N ∧ ∀ i, i < vs.length → vbad L K O S i (vs.getD i 0) = false := by
  unfold rVec at h
  split at h
  · rename_i hl
    refine ⟨hl, vfirst_none ?_⟩
    cases hv : vfirst L K O S vs with
    | none => rfl
    | some i => rw [hv] at h; cases h
  · cases h
theorem vec_all {L K O S : Int} {vs : List Int} (h : ∀ i, i < vs.length → vbad L K O S i (vs.getD i 0) = false) : ∀ v ∈ vs, 0 ≤ v ∧ v ≤ L := by
  intro v hv
  obtain ⟨i, hi, rfl⟩ := List.mem_iff_getElem.1 hv
  have := of_decide_eq_false (h i hi)
  rw [List.getD_eq_getElem?_getD, List.getElem?_eq_getElem hi] at this
  simp only [Option.getD_some] at this
  omega
theorem isEmpty_size (b : ByteArray) : b.toList.isEmpty = true ↔ b.size = 0 := by
  rw [ByteArray.toList_eq, List.isEmpty_iff_length_eq_zero, Array.length_toList]
  exact Iff.rfl
theorem fits_of {N W B L K F O S Lw : Int} {vs : List Int} {body : ByteArray} (h : rFrame N W B L K F O S Lw vs body = none) : Fits N W B L K F O S Lw vs body := by
  unfold rFrame at h
  cases hk : rKind K with
  | some x => rw [hk] at h; cases h
  | none =>
    rw [hk] at h
    cases hf : rFrom N F with
    | some x => rw [hf] at h; cases h
    | none =>
      rw [hf] at h
      have hF : 0 ≤ F ∧ F < N := by
        by_cases c : 0 ≤ F ∧ F < N
        · exact c
        · unfold rFrom at hf; rw [if_neg c] at hf; cases hf
      have hK : K = 1 ∨ K = 2 := by
        by_cases c : K = 1 ∨ K = 2
        · exact c
        · unfold rKind at hk; rw [if_neg c] at hk; cases hk
      by_cases h2 : K = 2
      · simp only [if_pos h2] at h
        unfold rState at h
        by_cases c : O = 0 ∧ S = 0 ∧ Lw = 0 ∧ body.toList.isEmpty = true
        · rw [if_pos c] at h
          obtain ⟨hl, hv⟩ := rVec_yes h
          exact ⟨hF.1, hF.2, hl, vec_all hv, Or.inl ⟨h2, c.1, c.2.1, c.2.2.1, (isEmpty_size body).1 c.2.2.2⟩⟩
        · rw [if_neg c] at h; cases h
      · simp only [if_neg h2] at h
        have h1 : K = 1 := by omega
        unfold rData at h
        by_cases c1 : 0 ≤ O ∧ O < N
        · rw [if_neg (by simpa using c1)] at h
          by_cases c2 : S < 1 ∨ L < S
          · rw [if_pos c2] at h; cases h
          · rw [if_neg c2] at h
            by_cases c3 : Lw < 0 ∨ S ≤ Lw ∨ Lw < S - W
            · rw [if_pos c3] at h; cases h
            · rw [if_neg c3] at h
              cases hv : rVec N L K O S vs with
              | some x => rw [hv] at h; cases h
              | none =>
                rw [hv] at h
                obtain ⟨hl, hvv⟩ := rVec_yes hv
                by_cases c4 : B < (body.size : Int)
                · simp only [if_pos c4] at h; cases h
                · have hO := of_decide_eq_false (hvv O.toNat (by omega))
                  exact ⟨hF.1, hF.2, hl, vec_all hvv, Or.inr ⟨h1, c1.1, c1.2, by omega, by omega, by omega, by omega, by omega, by omega, by omega⟩⟩
        · rw [if_pos c1] at h; cases h
theorem vec_good {L K O S : Int} {vs : List Int} (h : ∀ v ∈ vs, 0 ≤ v ∧ v ≤ L) (hO : K = 1 → 0 ≤ O ∧ vs.getD O.toNat 0 = S - 1) : ∀ i, i < vs.length → vbad L K O S i (vs.getD i 0) = false := by
  intro i hi
  apply decide_eq_false
  have hm := h (vs.getD i 0) (by rw [List.getD_eq_getElem?_getD, List.getElem?_eq_getElem hi]; exact List.getElem_mem hi)
  rintro (c | c | ⟨k1, e, ne⟩)
  · omega
  · omega
  · obtain ⟨o0, o1⟩ := hO k1
    have : O.toNat = i := by omega
    rw [this] at o1
    exact ne o1
theorem of_fits {N W B L K F O S Lw : Int} {vs : List Int} {body : ByteArray} (h : Fits N W B L K F O S Lw vs body) : rFrame N W B L K F O S Lw vs body = none := by
  unfold rFrame
  have hf : rFrom N F = none := if_pos ⟨h.from0, h.from1⟩
  rcases h.kind with ⟨k2, o, sq, lw, bd⟩ | ⟨k1, o0, o1, s1, s2, l0, l1, l2, hv, bd⟩
  · have hk : rKind K = none := if_pos (Or.inr k2)
    rw [hk, hf]
    simp only [if_pos k2]
    unfold rState
    rw [if_pos ⟨o, sq, lw, (isEmpty_size body).2 bd⟩]
    exact rVec_none h.len (vec_good h.vec (fun c => by omega))
  · have hk : rKind K = none := if_pos (Or.inl k1)
    rw [hk, hf]
    simp only [if_neg (show ¬ K = 2 by omega)]
    unfold rData
    rw [if_neg (fun c => c ⟨o0, o1⟩), if_neg (by omega), if_neg (by omega), rVec_none h.len (vec_good h.vec (fun _ => ⟨o0, hv⟩))]
    simp only [if_neg (show ¬ B < (body.size : Int) by omega)]

/-- P5: what Encode answers. -/
def encR (N W B L K F O S Lw : Int) (vs : List Int) (body : ByteArray) : List UInt8 × Int :=
  if okG N W B L then (if rFrame N W B L K F O S Lw vs body = none then (frameBytes N K F O S Lw vs body, 0) else ([], 5)) else ([], 1)

theorem appendHead_fits (N W B L K F O S Lw : Int) (ad : Option Addr) (len cap : Nat) (body : ByteArray) (vs : List Int) (w : World) (hi : Ints w ad len vs) (hG : okG N W B L = true) (hf : Fits N W B L K F O S Lw vs body) :
    Calls Tryz.prog 181 #[.slice none 0 0, .agg #[.int .i64 N, .int .i64 W, .int .i64 B, .int .i64 L], .agg #[.int .i64 K, .int .i64 F, .int .i64 O, .int .i64 S, .int .i64 Lw, .slice ad len cap, .string body]] w fun e w' => (∃ v, e = .returned v ∧ Own w' w.heap.size v (headBytes N K F O S Lw vs body.size)) ∧ Below w.heap.size w w' := by
  obtain ⟨h1, h2, h3, h4, h5, h6, h7, h8⟩ := okG_iff.1 hG
  have hlen := hf.len
  have hl := hi.len
  have hv : ∀ v ∈ vs, 0 ≤ v ∧ v ≤ 65535 := fun v hv => by have := hf.vec v hv; omega
  have f0 := hf.from0
  have f1 := hf.from1
  rcases hf.kind with ⟨rfl, o, sq, lw, bd⟩ | ⟨rfl, o0, o1, s1, s2, l0, l1, l2, hv2, bd⟩
  · exact appendHead_state N W B L F O S Lw ad len cap body vs w hi h1 h2 f0 f1 (by omega) hv
  · exact appendHead_data N W B L F O S Lw ad len cap body vs w hi h1 h2 f0 f1 o0 o1 s1 (by omega) l0 l1 (by omega) (by omega) hv
theorem head_length {N W B L K F O S Lw : Int} {vs : List Int} {body : ByteArray} (hG : okG N W B L = true) (hf : Fits N W B L K F O S Lw vs body) (n : Nat) : (headBytes N K F O S Lw vs n).length ≤ 27 := by
  obtain ⟨h1, h2, h3, h4, h5, h6, h7, h8⟩ := okG_iff.1 hG
  have hlen := hf.len
  have hv := vecBytes_length vs
  unfold headBytes
  by_cases h : K = 1
  · simp only [if_pos h, List.length_append, List.length_cons, List.length_nil, num_length, hv]; omega
  · simp only [if_neg h, List.length_append, List.length_cons, List.length_nil, hv]; omega
theorem body_length {N W B L K F O S Lw : Int} {vs : List Int} {body : ByteArray} (hG : okG N W B L = true) (hf : Fits N W B L K F O S Lw vs body) : body.size ≤ 40 := by
  obtain ⟨h1, h2, h3, h4, h5, h6, h7, h8⟩ := okG_iff.1 hG
  rcases hf.kind with ⟨_, o, sq, lw, bd⟩ | ⟨_, o0, o1, s1, s2, l0, l1, l2, hv2, bd⟩
  · omega
  · omega

set_option maxRecDepth 100000 in
set_option maxHeartbeats 4000000 in
theorem wireEncode_any (a0 a1 : Addr) (N W B L K F O S Lw : Int) (ad : Option Addr) (len cap : Nat) (body : ByteArray) (vs : List Int) (w : World) (hw : Sent w a0 a1) (hi : Ints w ad len vs)
    (hl : len ≤ maxLen) (hbd : body.size ≤ maxLen) :
    Calls Tryz.prog 139 #[.agg #[.int .i64 N, .int .i64 W, .int .i64 B, .int .i64 L], .agg #[.int .i64 K, .int .i64 F, .int .i64 O, .int .i64 S, .int .i64 Lw, .slice ad len cap, .string body]] w fun e w' => (∃ v, e = .returned (.tuple #[.string (txt (encR N W B L K F O S Lw vs body).1), v]) ∧ IsErr a0 a1 v (encR N W B L K F O S Lw vs body).2) ∧ Below w.heap.size w w' := by
  have HW : Hid (Sent w a0 a1) := hw
  have HI : Hid (Ints w ad len vs) := hi
  have HLm : Hid (len ≤ maxLen) := hl
  have HBd : Hid (body.size ≤ maxLen) := hbd
  clear hw hi hl hbd
  have HBX0 : Hid _ := boxes_start w N W B L K F O S Lw ad len cap body 26 45
  go_enter Tryz.func139, Tryz.ntmps139
  go_wp2_with fail
  refine (groupCheck_any a0 a1 N W B L _ ((HW.out.alloc _).alloc _)).mono ?_
  rintro e w1 ⟨⟨v, rfl, hv, hv0⟩, hb⟩
  have HB : Hid _ := hb
  have BX1 := HBX0.out.below hb (by simp)
  have HBX1 : Hid _ := BX1
  obtain ⟨cN, cW, cB, cL, cK, cF, cO, cS, cLw, cV, cT, cz⟩ := BX1
  clear hb
  by_cases hG : okG N W B L = true
  · obtain rfl := hv0 hG
    clear hv hv0
    go_wp2_with fail
    refine (checkFrame_any a0 a1 N W B L K F O S Lw ad len cap body vs _ (((HW.out.alloc _).alloc _).below HB.out) (((HI.out.alloc _).alloc _).below HB.out) hG HLm.out HBd.out).mono ?_
    rintro e w2 ⟨⟨v, rfl, hv⟩, hb2⟩
    have HB2 : Hid _ := hb2
    have BX2 := HBX1.out.below hb2 cz
    have HBX2 : Hid _ := BX2
    clear cN cW cB cL cK cF cO cS cLw cV cT cz
    obtain ⟨cN, cW, cB, cL, cK, cF, cO, cS, cLw, cV, cT, cz⟩ := BX2
    clear hb2
    cases hr : rFrame N W B L K F O S Lw vs body with
    | some x =>
      have HE : Hid (encR N W B L K F O S Lw vs body = ([], 5)) := by show encR N W B L K F O S Lw vs body = _; unfold encR; rw [if_pos hG, if_neg (by rw [hr]; simp)]
      rw [hr] at hv
      have HV : Hid (IsF a1 v (some x)) := hv
      obtain ⟨t, y, rfl⟩ := hv.nil_iff.2 x rfl
      clear hv hr hG
      go_wp2
      go_ret2
      rw [HE.out]
      exact ⟨⟨_, rfl, HV.out.err⟩, bthen (bthen (below2 _ _ _) HB.out) HB2.out⟩
    | none =>
      have HE : Hid (encR N W B L K F O S Lw vs body = (frameBytes N K F O S Lw vs body, 0)) := by show encR N W B L K F O S Lw vs body = _; unfold encR; rw [if_pos hG, if_pos hr]
      rw [hr] at hv
      obtain rfl := hv.nil_iff.1 rfl
      have HF : Hid (Fits N W B L K F O S Lw vs body) := fits_of hr
      clear hv hr
      have HG : Hid (okG N W B L = true) := hG
      have hbl := body_length hG HF.out
      clear hG
      have HI2 : Hid (Ints w2.drew ad len vs) := ((((HI.out.alloc _).alloc _).below HB.out).below HB2.out).drew
      have HBX2d : Hid _ := HBX2.out.below ((Below.refl w2.heap.size w2).drew) cz
      go_wp2
      go_region_law (first
        | (refine step_append_string rfl (.tmp 22) (.tmp 24) rfl w2.heap.size v3 _ (by simp [Act.eval]) HO3.out body (by simp [Act.eval]) (Nat.le_trans (head_length HG.out HF.out _) (by decide)) (by omega) hz3 ?_; intro v4 w4 ho4 hb4; have HO4 : Hid _ := ho4; have HB4 : Hid _ := hb4; clear ho4 hb4)
        | (go_simp; refine (appendHead_fits N W B L K F O S Lw ad len cap body vs _ HI2.out HG.out HF.out).mono ?_; rintro e w3 ⟨⟨v3, rfl, ho3⟩, hb3⟩; have HO3 : Hid _ := ho3; have HB3 : Hid _ := hb3; have hz3 := hb3.size; have ct3 := (HBX2d.out.below hb3 cz).t; clear ho3 hb3))
      all_goals
        have hcv := Own.string HO4.out
        have hln : (headBytes N K F O S Lw vs body.size ++ body.data.toList).length ≤ 67 := by
          have := head_length HG.out HF.out body.size
          simp only [List.length_append, Array.length_toList]
          show _ + body.size ≤ 67
          omega
        have HLN : Hid _ := hln
        clear hln
        have hz4 : w2.heap.size ≤ w4.heap.size := Nat.le_trans hz3 HB4.out.size
        have HSum : Hid (Crc.sum (txt (headBytes N K F O S Lw vs body.size ++ body.data.toList)).data.toList = Crc.sum (headBytes N K F O S Lw vs body.size ++ body.data.toList)) := by show _ = _; rw [txt_data]
        go_wp2_with fail
        refine (wireSum_any _ _ (by rw [txt_size]; exact Nat.le_trans HLN.out (by decide))).mono ?_
        rintro e w5 ⟨rfl, rfl⟩
        rw [HSum.out]
        go_wp2_with fail
        refine (appendNumber_int w2.heap.size v4 _ _ 4 4 rfl _ HO4.out hz4 (by omega) (by have := Crc.sum_lt (headBytes N K F O S Lw vs body.size ++ body.data.toList); omega) (by omega) (Nat.le_trans HLN.out (by decide))).mono ?_
        rintro e w6 ⟨v6, rfl, ho6, hb6⟩
        rw [Int.toNat_natCast] at ho6
        have hcv6 := Own.string ho6
        have HB6 : Hid _ := hb6
        clear ho6 hb6 hcv
        go_wp2
        go_ret2
        rw [HE.out]
        unfold frameBytes
        simp only [List.append_assoc]
        refine ⟨⟨_, rfl, ⟨Or.inl ⟨rfl, rfl⟩⟩⟩, bthen (bthen (below2 _ _ _) HB.out) (bthen HB2.out ?_)⟩
        exact ((Below.refl w2.heap.size w2).drew).trans (HB3.out.trans (HB4.out.trans HB6.out))
  · have HE : Hid (encR N W B L K F O S Lw vs body = ([], 1)) := by show encR N W B L K F O S Lw vs body = _; unfold encR; rw [if_neg hG]
    rw [if_neg hG] at hv
    have HV : Hid (IsErr a0 a1 v 1) := hv
    have hne : ∃ t y, v = .iface t y := by
      rcases hv.how with ⟨_, h⟩ | ⟨s, rfl, _⟩ | ⟨s, rfl, _⟩ | ⟨p, s, rfl, _⟩
      · omega
      · exact ⟨_, _, rfl⟩
      · exact ⟨_, _, rfl⟩
      · exact ⟨_, _, rfl⟩
    obtain ⟨t, y, rfl⟩ := hne
    clear hv hv0 hG
    go_wp2
    go_ret2
    rw [HE.out]
    exact ⟨⟨_, rfl, HV.out⟩, bthen (below2 _ _ _) HB.out⟩
end Go.Proofs.YtabecbjfamphbaaGreatDoor

/- The node's text: a frame's text. -/
namespace Go.Proofs.YtabecbjfamphbaaGreatDoor
open Go.RowKit Go.Stop Go.Extern

/-- The text of a frame. -/
def textOf (n : Nat) (W B L : Int) (f : Fr) : ByteArray := txt (encR n W B L f.kind f.frm f.org f.seq f.low f.vec f.body).1
set_option maxRecDepth 100000 in
set_option maxHeartbeats 1000000 in
theorem text_any (a0 a1 : Addr) (b n : Nat) (W B L : Int) (p gv : Nat) (f : Fr) (w : World) (hw : Sent w a0 a1) (hb : NB w b n W B L p gv) (hi : Ints w f.ad n f.vec) (hn : n ≤ 8) (hbd : f.body.size ≤ maxLen) :
    Calls Tryz.prog 153 #[.pointer (some ⟨b, 0, none⟩), Fr.agg n f] w fun e w' => e = .returned (.string (textOf n W B L f)) ∧ Below w.heap.size w w' := by
  have HE : Hid (∀ x, Below w.heap.size w x → Calls Tryz.prog 139 #[.agg #[.int .i64 n, .int .i64 W, .int .i64 B, .int .i64 L], .agg #[.int .i64 f.kind, .int .i64 f.frm, .int .i64 f.org, .int .i64 f.seq, .int .i64 f.low, .slice f.ad n f.cap, .string f.body]] x fun e w' => (∃ v, e = .returned (.tuple #[.string (textOf n W B L f), v])) ∧ Below x.heap.size x w') := fun x hx => (wireEncode_any a0 a1 n W B L f.kind f.frm f.org f.seq f.low f.ad n f.cap f.body f.vec x (hw.below hx) (hi.below hx) (by unfold maxLen; omega) hbd).mono (by
    rintro e w' ⟨⟨v, rfl, _⟩, h⟩
    exact ⟨⟨v, rfl⟩, h⟩)
  have hal := below1 w (.cells #[.int .i64 f.kind, .int .i64 f.frm, .int .i64 f.org, .int .i64 f.seq, .int .i64 f.low, .slice f.ad n f.cap, .string f.body] 45)
  have hsv := seven_alloc w (.int .i64 f.kind) (.int .i64 f.frm) (.int .i64 f.org) (.int .i64 f.seq) (.int .i64 f.low) (.slice f.ad n f.cap) (.string f.body) 45
  have hb' := hb.alike (E := fun _ => False) (Alike.of_below hal _) (fun h => h)
  have HAL : Hid _ := hal
  obtain ⟨c0, c1, c2, c3, c4, c5, _⟩ := hb'
  clear hw hb hi hal
  generalize textOf n W B L f = tx at *
  unfold Fr.agg
  go_enter Tryz.func153, Tryz.ntmps153
  go_wp2_with fail
  generalize w.alloc (.cells #[.int .i64 f.kind, .int .i64 f.frm, .int .i64 f.org, .int .i64 f.seq, .int .i64 f.low, .slice f.ad n f.cap, .string f.body] 45) = X at *
  obtain ⟨s0, s1, s2, s3, s4, s5, s6, sz⟩ := hsv
  have hbX : b < X.heap.size := lt_of_cell c0
  go_region_held3 (fun x => x.cell? ⟨b, 0, none⟩ = some (.int .i64 (n : Int)) ∧ x.cell? ⟨b, 1, none⟩ = some (.int .i64 W) ∧ x.cell? ⟨b, 2, none⟩ = some (.int .i64 B) ∧ x.cell? ⟨b, 3, none⟩ = some (.int .i64 L) ∧ x.cell? ⟨w.heap.size, 0, none⟩ = some (.int .i64 f.kind) ∧ x.cell? ⟨w.heap.size, 1, none⟩ = some (.int .i64 f.frm) ∧ x.cell? ⟨w.heap.size, 2, none⟩ = some (.int .i64 f.org) ∧ x.cell? ⟨w.heap.size, 3, none⟩ = some (.int .i64 f.seq) ∧ x.cell? ⟨w.heap.size, 4, none⟩ = some (.int .i64 f.low) ∧ x.cell? ⟨w.heap.size, 5, none⟩ = some (.slice f.ad n f.cap) ∧ x.cell? ⟨w.heap.size, 6, none⟩ = some (.string f.body))
    (first | (exact ⟨c0, c1, c2, c3, s0, s1, s2, s3, s4, s5, s6⟩) | (exact ⟨(HB1.out.cell (p := ⟨b, 0, none⟩) hbX).trans c0, (HB1.out.cell (p := ⟨b, 1, none⟩) hbX).trans c1, (HB1.out.cell (p := ⟨b, 2, none⟩) hbX).trans c2, (HB1.out.cell (p := ⟨b, 3, none⟩) hbX).trans c3, (HB1.out.cell (p := ⟨w.heap.size, 0, none⟩) sz).trans s0, (HB1.out.cell (p := ⟨w.heap.size, 1, none⟩) sz).trans s1, (HB1.out.cell (p := ⟨w.heap.size, 2, none⟩) sz).trans s2, (HB1.out.cell (p := ⟨w.heap.size, 3, none⟩) sz).trans s3, (HB1.out.cell (p := ⟨w.heap.size, 4, none⟩) sz).trans s4, (HB1.out.cell (p := ⟨w.heap.size, 5, none⟩) sz).trans s5, (HB1.out.cell (p := ⟨w.heap.size, 6, none⟩) sz).trans s6⟩) | go_keep)
    (first | (go_at_call 139; refine (HE.out _ HAL.out.drew).mono ?_; rintro e w1 ⟨⟨v, rfl⟩, hb1⟩; have HB1 : Hid (Below X.heap.size X w1) := (Below.refl _ _).drew.trans hb1; clear hb1))
  go_wp2_with fail
  go_ret
  exact ⟨rfl, bthen HAL.out HB1.out⟩
end Go.Proofs.YtabecbjfamphbaaGreatDoor

/- The node's passOn: a word to the others. -/
namespace Go.Proofs.YtabecbjfamphbaaGreatDoor
open Go.RowKit Go.Stop Go.Extern

/-- A packet. -/
structure Pk where
  to : Int
  text : ByteArray
def Pk.cells (x : Pk) : List Value := [.int .i64 x.to, .string x.text]
def prow (ps : List Pk) : List Value := ps.flatMap Pk.cells
theorem prow_append (a b : List Pk) : prow (a ++ b) = prow a ++ prow b := by simp [prow]
/-- Packets in memory, above a bound. -/
structure Pks (w : World) (base : Nat) (v : Value) (ps : List Pk) : Prop where
  own : w.ownsRow base 109 2 v ps.length (prow ps)
/-- To whom a word goes, of the first k nodes. -/
def passL (tx : ByteArray) (p o fr : Int) (k : Nat) : List Pk := ((List.range k).filter (fun (q : Nat) => decide ((q : Int) ≠ p ∧ (q : Int) ≠ o ∧ (q : Int) ≠ fr))).map (fun (q : Nat) => ⟨(q : Int), tx⟩)
theorem Pks.block {w : World} {base : Nat} {v : Value} {ps : List Pk} (h : Pks w base v ps) : ∀ k, v.ownBlock = some k → base ≤ k := by
  intro k hk
  rcases h.own.2 with ⟨rfl, _⟩ | ⟨g, cap, cur, rfl, hg, _⟩
  · cases hk
  · cases hk
    exact hg
theorem Pks.mono {w : World} {b b' : Nat} {v : Value} {ps : List Pk} (h : Pks w b v ps) (hb : b' ≤ b) : Pks w b' v ps := by
  refine ⟨h.own.1, ?_⟩
  rcases h.own.2 with h2 | ⟨g, cap, cur, hv, hg, r⟩
  · exact Or.inl h2
  · exact Or.inr ⟨g, cap, cur, hv, Nat.le_trans hb hg, r⟩
theorem rowShaped {w : World} {base : Nat} {e : TypeId} {size : Nat} {v : Value} {n : Nat} {xs : List Value} (h : w.ownsRow base e size v n xs) : ∃ a c, v = .slice a n c := by
  rcases h.2 with ⟨rfl, rfl⟩ | ⟨g, cap, cur, rfl, _⟩
  · exact ⟨_, _, rfl⟩
  · exact ⟨_, _, rfl⟩
theorem Pks.nil (w : World) (base : Nat) : Pks w base (.slice none 0 0) [] := ⟨World.ownsRow_nil _ _ _ _⟩
theorem passL_no {tx : ByteArray} {p o fr : Int} {k : Nat} (h : ¬ ((k : Int) ≠ p ∧ (k : Int) ≠ o ∧ (k : Int) ≠ fr)) : passL tx p o fr (k + 1) = passL tx p o fr k := by
  unfold passL
  rw [List.range_succ, List.filter_append]
  simp only [List.filter_cons, List.filter_nil, decide_eq_false h]
  simp
theorem passL_yes {tx : ByteArray} {p o fr : Int} {k : Nat} (h : (k : Int) ≠ p ∧ (k : Int) ≠ o ∧ (k : Int) ≠ fr) : passL tx p o fr (k + 1) = passL tx p o fr k ++ [⟨(k : Int), tx⟩] := by
  unfold passL
  rw [List.range_succ, List.filter_append]
  simp only [List.filter_cons, List.filter_nil, decide_eq_true h]
  simp
theorem passL_length (tx : ByteArray) (p o fr : Int) (k : Nat) : (passL tx p o fr k).length ≤ k := by
  unfold passL
  rw [List.length_map]
  exact Nat.le_trans (List.length_filter_le _ _) (by simp)
theorem Tryz.packetInfo : (Tryz.prog.info? 109).map (fun i => (i.zero, i.size, i.bytes)) = some (some (.agg #[.int .i64 0, .string ⟨#[]⟩]), 2, 24) := by kernel_rfl

set_option maxRecDepth 100000 in
set_option maxHeartbeats 1000000 in
theorem passOn_any (a0 a1 : Addr) (b n : Nat) (W B L : Int) (p gv : Nat) (f : Fr) (fr : Int) (w : World) (hw : Sent w a0 a1) (hb : NB w b n W B L p gv) (hi : Ints w f.ad n f.vec) (hn : n ≤ 8) (hbd : f.body.size ≤ maxLen) :
    Calls Tryz.prog 151 #[.pointer (some ⟨b, 0, none⟩), Fr.agg n f, .int .i64 fr] w fun e w' => (∃ v, e = .returned v ∧ Pks w' w.heap.size v (passL (textOf n W B L f) p f.org fr n)) ∧ Below w.heap.size w w' := by
  have HT : Hid (∀ x, Below w.heap.size w x → Calls Tryz.prog 153 #[.pointer (some ⟨b, 0, none⟩), .agg #[.int .i64 f.kind, .int .i64 f.frm, .int .i64 f.org, .int .i64 f.seq, .int .i64 f.low, .slice f.ad n f.cap, .string f.body]] x fun e w' => e = .returned (.string (textOf n W B L f)) ∧ Below x.heap.size x w') := fun x hx => text_any a0 a1 b n W B L p gv f x (hw.below hx) (hb.alike (E := fun _ => False) (Alike.of_below hx _) (fun h => h)) (hi.below hx) hn hbd
  have HC : Hid (∀ x, Below w.heap.size w x → x.cell? ⟨b, 0, none⟩ = some (.int .i64 (n : Int)) ∧ x.cell? ⟨b, 4, none⟩ = some (.int .i64 (p : Int))) := fun x hx => by
    have h := hb.alike (E := fun _ => False) (Alike.of_below hx _) (fun h => h)
    exact ⟨h.c0, h.c4⟩
  have hal := below1 w (.cells #[.int .i64 f.kind, .int .i64 f.frm, .int .i64 f.org, .int .i64 f.seq, .int .i64 f.low, .slice f.ad n f.cap, .string f.body] 45)
  have hsv := seven_alloc w (.int .i64 f.kind) (.int .i64 f.frm) (.int .i64 f.org) (.int .i64 f.seq) (.int .i64 f.low) (.slice f.ad n f.cap) (.string f.body) 45
  have HAL : Hid _ := hal
  have HSV : Hid _ := hsv
  clear hw hb hi hal
  generalize textOf n W B L f = tx at *
  unfold Fr.agg
  go_enter Tryz.func151, Tryz.ntmps151
  go_wp2_with fail
  generalize w.alloc (.cells #[.int .i64 f.kind, .int .i64 f.frm, .int .i64 f.org, .int .i64 f.seq, .int .i64 f.low, .slice f.ad n f.cap, .string f.body] 45) = X at *
  obtain ⟨s0, s1, s2, s3, s4, s5, s6, sz⟩ := hsv
  go_wp2_with fail
  refine (HT.out X HAL.out).mono ?_
  rintro e w1 ⟨rfl, hb1⟩
  have HB1 : Hid (Below w.heap.size w w1) := bthen HAL.out hb1
  have z1 : w.heap.size < w1.heap.size := Nat.lt_of_lt_of_le sz hb1.size
  have HS2 : Hid (w1.cell? ⟨w.heap.size, 2, none⟩ = some (.int .i64 f.org)) := (hb1.cell (p := ⟨w.heap.size, 2, none⟩) sz).trans s2
  clear s0 s1 s2 s3 s4 s5 s6 hb1 HT
  obtain ⟨c0, c4⟩ := HC.out w1 HB1.out
  go_wp2_with fail
  have HN : Hid (Pks w1 w1.heap.size (.slice none 0 0) (passL tx p f.org fr 0)) := Pks.nil _ _
  go_loopw [8, 18] (fun pv c wr => ∃ k : Nat, k ≤ n ∧ c = .int .i64 k ∧ Pks wr w1.heap.size pv (passL tx p f.org fr k) ∧ Below w1.heap.size w1 wr) (fun _ c _ => n - (intOf c).toNat)
  case atStart => exact ⟨0, Nat.zero_le _, rfl, HN.out, Below.refl _ _⟩
  case round =>
    obtain ⟨k, hkn, rfl, hps, hbel⟩ := hrel
    have HPS : Hid _ := hps
    have HBel : Hid _ := hbel
    clear hps hbel c0 c4
    by_cases hlt : k < n
    · have hki : (k : Int) < (n : Int) := by omega
      have HW : Hid (Below w.heap.size w wr) := bthen HB1.out HBel.out
      obtain ⟨c0, c4⟩ := HC.out wr HW.out
      have s2 := (HBel.out.cell (p := ⟨w.heap.size, 2, none⟩) z1).trans HS2.out
      have hzr := HBel.out.size
      by_cases hyes : (k : Int) ≠ p ∧ (k : Int) ≠ f.org ∧ (k : Int) ≠ fr
      · obtain ⟨y1, y2, y3⟩ := hyes
        have HPL : Hid _ := passL_yes (tx := tx) (k := k) ⟨y1, y2, y3⟩
        have HLn : Hid _ := passL_length tx p f.org fr k
        obtain ⟨i1, hj, hy0, hy1, hy2⟩ := info_parts Tryz.packetInfo
        obtain ⟨av, cv, hshape⟩ := rowShaped HPS.out.own
        subst hshape
        have b1 : ((k : Int) != p) = true := by simp [y1]
        have b2 : ((k : Int) != f.org) = true := by simp [y2]
        have b3 : ((k : Int) != fr) = true := by simp [y3]
        go_wp2_with (at_builtin; refine wpList_append_own _ rfl (.tmp 38) (.tmp 42) 54 rfl w1.heap.size 109 i1 _ 2 24 Tryz.underlying54 hj hy0 hy1 hy2 rfl (by decide) _ _ _ rfl (World.ownsRow.alloc HPS.out.own _) ⟨wr.heap.size, 0, none⟩ 1 1 [.int .i64 k, .string tx] rfl rfl ?c1 ?c2 (by have := HLn.out; unfold maxLen; omega) (by have := HLn.out; omega) (by simp; omega) ?_)
        case c1 =>
          intro q u hq
          match q, hq with
          | 0, hq => simp at hq; subst hq; simp [Addr.add]
          | 1, hq => simp at hq; subst hq; simp [Addr.add]
        case c2 =>
          intro u hu
          simp at hu
          rcases hu with rfl | rfl <;> rfl
        intro v4 w4 hown4 hgrow4 _
        have HG4 : Hid (Pks w4 w1.heap.size v4 (passL tx p f.org fr (k + 1))) := by
          refine ⟨?_⟩
          rw [HPL.out, prow_append, List.length_append]
          exact hown4
        have HB4 : Hid (Below w1.heap.size w1 w4) := (HBel.out.alloc hzr _).grown hgrow4 (by simp; omega) HPS.out.block
        obtain ⟨a4, c4', hg4⟩ := rowShaped hown4
        subst hg4
        clear hown4 hgrow4
        go_wp2_with fail
        go_roundw
        case rel => exact ⟨k + 1, by omega, by go_num, HG4.out, HB4.out⟩
        case measure => simp [intOf]; omega
      · have HPL : Hid _ := passL_no (tx := tx) (k := k) hyes
        obtain ⟨av, cv, hshape⟩ := rowShaped HPS.out.own
        subst hshape
        by_cases y1 : (k : Int) = p
        · have b1 : ((k : Int) != p) = false := by simp [y1]
          clear hyes y1
          go_wp2_with fail
          go_roundw
          case rel => exact ⟨k + 1, by omega, by go_num, by rw [HPL.out]; exact HPS.out, HBel.out⟩
          case measure => simp [intOf]; omega
        · have b1 : ((k : Int) != p) = true := by simp [y1]
          by_cases y2 : (k : Int) = f.org
          · have b2 : ((k : Int) != f.org) = false := by simp [y2]
            clear hyes y2
            go_wp2_with fail
            go_roundw
            case rel => exact ⟨k + 1, by omega, by go_num, by rw [HPL.out]; exact HPS.out, HBel.out⟩
            case measure => simp [intOf]; omega
          · have b2 : ((k : Int) != f.org) = true := by simp [y2]
            have y3 : (k : Int) = fr := Decidable.byContradiction fun h => hyes ⟨y1, y2, h⟩
            have b3 : ((k : Int) != fr) = false := by simp [y3]
            clear hyes y3
            go_wp2_with fail
            go_roundw
            case rel => exact ⟨k + 1, by omega, by go_num, by rw [HPL.out]; exact HPS.out, HBel.out⟩
            case measure => simp [intOf]; omega
    · have hkn' : k = n := by omega
      subst hkn'
      obtain ⟨av, cv, hshape⟩ := rowShaped HPS.out.own
      subst hshape
      go_wp2_with fail
      go_ret
      exact ⟨⟨_, rfl, HPS.out.mono (by omega)⟩, bthen HB1.out HBel.out⟩
end Go.Proofs.YtabecbjfamphbaaGreatDoor
