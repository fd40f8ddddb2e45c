/-
  Texts that the proofs of this seat share, joined: Frame, Num, RefNum, Head.
-/
import Derived.Test.YtabecbjfamphbaaGreatDoorB11
import Derived.Lib.AppendStr
import Derived.Laws.IdiomStrings
import Derived.Laws.BytesArg
/- The walk of checkFrame; the rules together say what a frame is. -/
namespace Go.Proofs.YtabecbjfamphbaaGreatDoor
open Go.RowKit Go.Stop Go.Extern

def rFrame (N W B L K F O S Lw : Int) (vs : List Int) (body : ByteArray) : Option (Option Int) :=
  match rKind K with
  | some x => some x
  | none => match rFrom N F with
    | some x => some x
    | none => if K = 2 then rState N L K O S Lw vs body.toList.isEmpty else rData N W B L K O S Lw vs body.size

set_option maxHeartbeats 2000000 in
theorem checkFrame_any (a0 a1 : Addr) (N W B L K F O S Lw : Int) (ad : Option Addr) (len cap : Nat) (body : ByteArray) (vs : List Int) (w : World) (hw : Sent w a0 a1) (hi : Ints w ad len vs)
    (hG : okG N W B L = true) (hl : len ≤ maxLen) (hbd : body.size ≤ maxLen) :
    Calls Tryz.prog 180 #[.agg #[.int .i64 N, .int .i64 W, .int .i64 B, .int .i64 L], .agg #[.int .i64 K, .int .i64 F, .int .i64 O, .int .i64 S, .int .i64 Lw, .slice ad len cap, .string body]] w fun e w' => (∃ v, e = .returned v ∧ IsF a1 v (rFrame N W B L K F O S Lw vs body)) ∧ Below w.heap.size w w' := by
  have HW : Hid (Sent w a0 a1) := hw
  have HI : Hid (Ints w ad len vs) := hi
  have HG : Hid (okG N W B L = true) := hG
  have HLm : Hid (len ≤ maxLen) := hl
  have HBd : Hid (body.size ≤ maxLen) := hbd
  clear hw hi hG hl hbd
  go_enter Tryz.func180, Tryz.ntmps180
  go_wp2_with fail
  refine (checkKind_any a0 a1 K F O S Lw ad len cap body _ ((HW.out.alloc _).alloc _)).mono ?_
  rintro e w1 ⟨⟨v, rfl, hv⟩, hb⟩
  have HB : Hid _ := hb
  have hc1 := (bcell hb).1
  have hz1 : w.heap.size + 1 < w1.heap.size := by have := hb.size; simp at this; omega
  have hz0 : w.heap.size < w1.heap.size := by omega
  clear hb
  cases hr : rKind K with
  | some x =>
    rw [hr] at hv
    have HV : Hid (IsF a1 v (some x)) := hv
    have HRR : Hid (rFrame N W B L K F O S Lw vs body = some x) := by show rFrame N W B L K F O S Lw vs body = _; unfold rFrame; rw [hr]
    obtain ⟨t, y, rfl⟩ := hv.nil_iff.2 x rfl
    clear hv hr
    go_wp2
    go_ret
    rw [HRR.out]
    exact ⟨⟨_, rfl, HV.out⟩, bthen (below2 _ _ _) HB.out⟩
  | none =>
    rw [hr] at hv
    obtain rfl := hv.nil_iff.1 rfl
    have hK : K = 1 ∨ K = 2 := by
      by_cases h : K = 1 ∨ K = 2
      · exact h
      · unfold rKind at hr; rw [if_neg h] at hr; cases hr
    have HKR : Hid (rKind K = none) := hr
    clear hv hr
    go_wp2_with fail
    refine (checkFrom_any a0 a1 N W B L K F O S Lw ad len cap body _ (((HW.out.alloc _).alloc _).below HB.out)).mono ?_
    rintro e w2 ⟨⟨v, rfl, hv⟩, hb2⟩
    have HB2 : Hid _ := hb2
    have hc2 := (bcell hb2).1
    have hy1 : w.heap.size + 1 < w2.heap.size := by have := hb2.size; omega
    have hy0 : w.heap.size < w2.heap.size := by omega
    clear hb2
    cases hr : rFrom N F with
    | some x =>
      rw [hr] at hv
      have HV : Hid (IsF a1 v (some x)) := hv
      have HRR : Hid (rFrame N W B L K F O S Lw vs body = some x) := by show rFrame N W B L K F O S Lw vs body = _; unfold rFrame; rw [HKR.out, hr]
      obtain ⟨t, y, rfl⟩ := hv.nil_iff.2 x rfl
      clear hv hr hK
      go_wp2
      go_ret
      rw [HRR.out]
      exact ⟨⟨_, rfl, HV.out⟩, bthen (bthen (below2 _ _ _) HB.out) HB2.out⟩
    | none =>
      rw [hr] at hv
      obtain rfl := hv.nil_iff.1 rfl
      have HFR : Hid (rFrom N F = none) := hr
      clear hv hr
      rcases hK with rfl | rfl
      · have HRR : Hid (rFrame N W B L 1 F O S Lw vs body = rData N W B L 1 O S Lw vs body.size) := by show rFrame N W B L 1 F O S Lw vs body = _; unfold rFrame; rw [HKR.out, HFR.out]; rfl
        go_wp2_with fail
        refine (checkData_any a0 a1 N W B L 1 F O S Lw ad len cap body vs _ ((((HW.out.alloc _).alloc _).below HB.out).below HB2.out) ((((HI.out.alloc _).alloc _).below HB.out).below HB2.out) HG.out HLm.out HBd.out).mono ?_
        rintro e w3 ⟨⟨v, rfl, hv⟩, hb3⟩
        have HB3 : Hid _ := hb3
        have HV : Hid _ := hv
        clear hb3 hv
        go_wp2
        go_ret
        rw [HRR.out]
        exact ⟨⟨_, rfl, HV.out⟩, bthen (bthen (bthen (below2 _ _ _) HB.out) HB2.out) HB3.out⟩
      · have HRR : Hid (rFrame N W B L 2 F O S Lw vs body = rState N L 2 O S Lw vs body.toList.isEmpty) := by show rFrame N W B L 2 F O S Lw vs body = _; unfold rFrame; rw [HKR.out, HFR.out]; rfl
        go_wp2_with fail
        refine (checkState_any a0 a1 N W B L 2 F O S Lw ad len cap body vs _ ((((HW.out.alloc _).alloc _).below HB.out).below HB2.out) ((((HI.out.alloc _).alloc _).below HB.out).below HB2.out) HG.out HLm.out).mono ?_
        rintro e w3 ⟨⟨v, rfl, hv⟩, hb3⟩
        have HB3 : Hid _ := hb3
        have HV : Hid _ := hv
        clear hb3 hv
        go_wp2
        go_ret
        rw [HRR.out]
        exact ⟨⟨_, rfl, HV.out⟩, bthen (bthen (bthen (below2 _ _ _) HB.out) HB2.out) HB3.out⟩
end Go.Proofs.YtabecbjfamphbaaGreatDoor

/- Numbers as bytes, the highest first: appendNumber. -/
namespace Go.Proofs.YtabecbjfamphbaaGreatDoor
open Go.RowKit Go.Stop Go.Extern

/-- number(x, k): the whole number x in k bytes, the highest first. -/
def num (x : Nat) : Nat → List UInt8
  | 0 => []
  | k + 1 => UInt8.ofNat (x / 256 ^ k) :: num x k
theorem num_length (x k : Nat) : (num x k).length = k := by
  induction k with
  | zero => rfl
  | succ k ih => simp [num, ih]
/-- Bytes as cells. -/
def bcells (l : List UInt8) : List Value := l.map fun b => Value.int .u8 b.toNat
theorem bcells_append (l m : List UInt8) : bcells (l ++ m) = bcells l ++ bcells m := by simp [bcells]
theorem bcells_one (b : UInt8) : bcells [b] = [Value.int .u8 b.toNat] := rfl
/-- A slice of bytes that the call itself has made. -/
def Own (w : World) (base : Nat) (v : Value) (l : List UInt8) : Prop := w.ownsRow base 5 1 v l.length (bcells l)
theorem Own.nil (w : World) (base : Nat) : Own w base (.slice none 0 0) [] := World.ownsRow_nil _ _ _ _
theorem Own.alloc {w : World} {base : Nat} {v : Value} {l : List UInt8} (h : Own w base v l) (o : Obj) : Own (w.alloc o) base v l := World.ownsRow.alloc h o
theorem Own.block {w : World} {base : Nat} {v : Value} {l : List UInt8} (h : Own w base v l) : ∀ k, v.ownBlock = some k → base ≤ k := by
  intro k hk
  rcases h.2 with ⟨rfl, _⟩ | ⟨g, cap, cur, rfl, hg, _⟩
  · cases hk
  · cases hk; exact hg
theorem Tryz.infoByte : (Tryz.prog.info? 5).map (fun i => (i.zero, i.size, i.bytes)) = some (some (.int .u8 0), 1, 1) := by kernel_rfl

theorem byte_of {x j : Nat} : ((x : Int) / 2 ^ (8 * j)) % 256 = ((UInt8.ofNat (x / 256 ^ j)).toNat : Int) := by
  rw [UInt8.toNat_ofNat', show (256 : Nat) ^ j = 2 ^ (8 * j) by rw [Nat.pow_mul]]
  simp
/-- What one append leaves. -/
theorem Own.snoc {w w' : World} {base : Nat} {v v' : Value} {l : List UInt8} (m : List UInt8) (cs : List Value) (hcs : cs = bcells m) (n : Nat) (hn : n = m.length) (o : Obj) (_h : Own w base v l) (h' : w'.ownsRow base 5 1 v' (l.length + n) (bcells l ++ cs)) (hg : (w.alloc o).grownBy w' v.ownBlock) (hb : base ≤ w.heap.size) : Own w' base v' (l ++ m) ∧ Below base w w' := by
  refine ⟨?_, ((Below.refl _ _).alloc hb o).grown hg (by simp; omega) _h.block⟩
  subst hcs hn
  unfold Own
  rw [bcells_append, List.length_append]
  exact h'

set_option maxHeartbeats 2000000 in
set_option maxRecDepth 100000 in
theorem appendNumber_any (base : Nat) (v : Value) (l : List UInt8) (x k : Nat) (w : World) (hown : Own w base v l) (hbase : base ≤ w.heap.size) (_hx : x < 4294967296) (hk : k ≤ 4) (hl : l.length ≤ 1000) :
    Calls Tryz.prog 182 #[v, .int .i64 x, .int .i64 k] w fun e w' => ∃ v', e = .returned v' ∧ Own w' base v' (l ++ num x k) ∧ Below base w w' := by
  have HO : Hid (Own w base v l) := hown
  clear hown
  have hk0 : (k : Int) ≤ 4 := by omega
  obtain ⟨i0, hi, hz0, hz1, hz2⟩ := info_parts Tryz.infoByte
  go_enter Tryz.func182, Tryz.ntmps182
  go_wp2
  go_loopw [0, 2] (fun u c wr => ∃ (j : Nat) (cur : List UInt8), j ≤ k ∧ c = .int .i64 j ∧ Own wr base u cur ∧ l ++ num x k = cur ++ num x j ∧ Below base w wr) (fun _ c _ => (intOf c).toNat)
  case atStart => exact ⟨k, l, Nat.le_refl _, rfl, HO.out, rfl, Below.refl _ _⟩
  case round =>
    obtain ⟨j, cur, hj, rfl, hcur, heq, hbel⟩ := hrel
    have HC : Hid (Own wr base _ cur) := hcur
    have HE : Hid (l ++ num x k = cur ++ num x j) := heq
    have HB : Hid (Below base w wr) := hbel
    have hcl : cur.length ≤ 1004 := by have := congrArg List.length heq; simp [num_length] at this; omega
    clear hcur heq hbel
    by_cases hj0 : 0 < j
    · obtain ⟨i, rfl⟩ : ∃ i, j = i + 1 := ⟨j - 1, by omega⟩
      have hbw : base ≤ wr.heap.size := Nat.le_trans hbase HB.out.size
      go_wp2_with (at_builtin; refine wpList_append_own _ rfl _ _ 241 rfl base 5 i0 (.int .u8 0) 1 1 Tryz.underlying241 hi hz0 hz1 hz2 rfl (by decide) _ _ _ rfl (HC.out.alloc _) ⟨wr.heap.size, 0, none⟩ 1 1 [.int .u8 ((x : Int) / 2 ^ (8 * i) % 256)] rfl rfl ?c1 ?c2 ?c3 ?c4 ?c5 ?_)
      case c1 =>
        intro q u hq
        match q, hq with
        | 0, hq => simp at hq; subst hq; simp [Addr.add]
      case c2 => intro u hu; simp at hu; subst hu; rfl
      case c3 => unfold maxLen; omega
      case c4 => omega
      case c5 => simp; omega
      · intro v' w1 hown' hgrow _
        have R := Own.snoc [UInt8.ofNat (x / 256 ^ i)] _ (by rw [byte_of]; rfl) 1 rfl _ HC.out hown' hgrow hbw
        have HR1 : Hid _ := R.1
        have HR2 : Hid _ := R.2
        have HE2 : Hid (l ++ num x k = (cur ++ [UInt8.ofNat (x / 256 ^ i)]) ++ num x i) := by have := HE.out; show l ++ num x k = _; rw [this]; simp [num]
        clear hown' hgrow R
        go_wp2
        go_roundw
        case rel => exact ⟨i, _, by omega, rfl, HR1.out, HE2.out, HB.out.trans HR2.out⟩
        case measure => simp [intOf]
    · go_wp2
      go_ret
      refine ⟨_, rfl, ?_, HB.out⟩
      have h0 : j = 0 := by omega
      subst h0
      have := HE.out
      rw [this]
      simpa [num] using HC.out
end Go.Proofs.YtabecbjfamphbaaGreatDoor

/- The reference's Number. -/
namespace Go.Proofs.YtabecbjfamphbaaGreatDoor
open Go.RowKit Go.Stop Go.Extern

/-- A text out of its bytes. -/
def txt (l : List UInt8) : ByteArray := ⟨l.toArray⟩

theorem txt_size (l : List UInt8) : (txt l).size = l.length := by show l.toArray.size = _; simp
theorem txt_data (l : List UInt8) : (txt l).data.toList = l := by simp [txt]
theorem txt_append (l m : List UInt8) : txt l ++ txt m = txt (l ++ m) := by
  apply ByteArray.ext
  show (txt l ++ txt m).data = _
  rw [ByteArray.data_append]
  simp [txt]
/-- 'string(b)' of a slice of the call's own. -/
theorem Own.string {w : World} {base : Nat} {v : Value} {l : List UInt8} (h : Own w base v l) : (convert 241 9 v).run Tryz.prog w = .ok (.string (txt l)) w := by
  have hl : (bcells l).length = l.length := by simp [bcells]
  rcases h.2 with ⟨rfl, hn⟩ | ⟨g, cap, cur, rfl, hg, hh, hc⟩
  · have : l = [] := List.eq_nil_of_length_eq_zero hn
    subst this
    exact run_convert_bytes_nil w 241 5 Tryz.underlying241 Tryz.underlying5 0 0 9 Tryz.underlying9
  · refine run_convert_bytes_back w 241 9 5 ⟨g, 0, none⟩ cap l Tryz.underlying241 Tryz.underlying5 Tryz.underlying9 fun j hj => ?_
    have := World.ownsRow.cells h (g := g) rfl j (.int .u8 (l[j].toNat : Int)) (by simp [bcells, hj])
    exact this
theorem conv_one (w : World) (y : Nat) : (convert 241 9 (.slice (some ⟨w.heap.size, 0, none⟩) 1 1)).run Tryz.prog (w.alloc (.cells #[.int .u8 ((y : Int) % 256)] 5)) = .ok (.string (txt [UInt8.ofNat y])) (w.alloc (.cells #[.int .u8 ((y : Int) % 256)] 5)) := by
  refine run_convert_bytes_back _ 241 9 5 ⟨w.heap.size, 0, none⟩ 1 [UInt8.ofNat y] Tryz.underlying241 Tryz.underlying5 Tryz.underlying9 fun j hj => ?_
  have : j = 0 := by simpa using hj
  subst this
  simp [Addr.add]

set_option maxRecDepth 100000 in
set_option maxHeartbeats 2000000 in
theorem refNumber_any (x n : Nat) (w : World) (hx : x < 4611686018427387904) (hn : n ≤ 8) :
    Calls Tryz.prog 178 #[.int .i64 x, .int .i64 n] w fun e w' => e = .returned (.string (txt (num x n))) ∧ Below w.heap.size w w' := by
  have hn0 : (n : Int) ≤ 8 := by omega
  go_enter Tryz.func178, Tryz.ntmps178
  go_wp2
  go_loopw [0, 5, 6] (fun v s c wr => ∃ i : Nat, i ≤ n ∧ c = .int .i64 i ∧ v = .int .i64 ((x / 256 ^ i : Nat) : Int) ∧ s = .string (txt (num x i)) ∧ Below w.heap.size w wr) (fun _ _ c _ => n - (intOf c).toNat)
  case atStart => exact ⟨0, Nat.zero_le _, rfl, by simp, rfl, Below.refl _ _⟩
  case round =>
    obtain ⟨i, hi, rfl, rfl, rfl, hbel⟩ := hrel
    have HB : Hid (Below w.heap.size w wr) := hbel
    have hsl : (txt (num x i)).size = i := by show (num x i).toArray.size = _; simp [num_length]
    have hyl : x / 256 ^ i ≤ x := Nat.div_le_self _ _
    have HY : Hid (x / 256 ^ (i + 1) = x / 256 ^ i / 256) := by show x / 256 ^ (i + 1) = _; rw [Nat.pow_succ, Nat.div_div_eq_div_mul]
    have HT : Hid (num x (i + 1) = UInt8.ofNat (x / 256 ^ i) :: num x i) := rfl
    generalize x / 256 ^ i = y at *
    generalize hg : txt (num x i) = t at *
    have HG : Hid (txt (num x i) = t) := hg
    clear hbel hg
    by_cases hin : i < n
    · have hcv := conv_one wr y
      have hs1 : (txt [UInt8.ofNat y]).size = 1 := rfl
      go_wp2
      go_roundw
      case rel => exact ⟨i + 1, by omega, by go_num, val_int (by rw [HY.out]; omega), by rw [HT.out, ← HG.out, txt_append]; rfl, HB.out.alloc HB.out.size _⟩
      case measure => simp [intOf]; omega
    · go_wp2
      go_ret
      have : i = n := by omega
      subst this
      rw [HG.out]
      exact ⟨rfl, HB.out⟩
end Go.Proofs.YtabecbjfamphbaaGreatDoor

/- appendHead: all that stands ahead of the body. -/
namespace Go.Proofs.YtabecbjfamphbaaGreatDoor
open Go.RowKit Go.Stop Go.Extern

/-- The numbers of a vector, two bytes each. -/
def vecBytes : List Int → List UInt8
  | [] => []
  | v :: l => num v.toNat 2 ++ vecBytes l
theorem vecBytes_append (l m : List Int) : vecBytes (l ++ m) = vecBytes l ++ vecBytes m := by
  induction l with
  | nil => rfl
  | cons v l ih => simp [vecBytes, ih]
theorem vecBytes_length (l : List Int) : (vecBytes l).length = 2 * l.length := by
  induction l with
  | nil => rfl
  | cons v l ih => simp [vecBytes, ih, num_length]; omega
/-- All that stands ahead of the body. -/
def headBytes (N K F O S Lw : Int) (vs : List Int) (n : Nat) : List UInt8 :=
  [104, 115, UInt8.ofNat K.toNat, UInt8.ofNat N.toNat, UInt8.ofNat F.toNat] ++ (if K = 1 then UInt8.ofNat O.toNat :: (num S.toNat 2 ++ num Lw.toNat 2) else []) ++ vecBytes vs ++ (if K = 1 then [UInt8.ofNat n] else [])
theorem byte_nat {x : Int} (h : 0 ≤ x) : x % 256 = ((UInt8.ofNat x.toNat).toNat : Int) := by
  rw [UInt8.toNat_ofNat']
  omega
theorem Own.str {w w' : World} {base : Nat} {v v' : Value} {l : List UInt8} (s : ByteArray) (m : List UInt8) (hs : s = txt m) (h : Own w base v l) (h' : w'.ownsRow base 5 1 v' (l.length + s.size) (bcells l ++ Lib.strCells s)) (hg : w.grownBy w' v.ownBlock) (hb : base ≤ w.heap.size) : Own w' base v' (l ++ m) ∧ Below base w w' := by
  refine ⟨?_, (Below.refl _ _).grown hg hb h.block⟩
  subst hs
  unfold Own
  rw [bcells_append, List.length_append]
  rw [txt_size] at h'
  have e : Lib.strCells (txt m) = bcells m := by simp [Lib.strCells, bcells, txt_data]
  rw [e] at h'
  exact h'

theorem Own.mono {w : World} {b b' : Nat} {v : Value} {l : List UInt8} (h : Own w b v l) (hb : b' ≤ b) : Own w b' v l := by
  refine ⟨h.1, ?_⟩
  rcases h.2 with h2 | ⟨g, cap, cur, hv, hg, r⟩
  · exact Or.inl h2
  · exact Or.inr ⟨g, cap, cur, hv, Nat.le_trans hb hg, r⟩
theorem byte_in {x : Int} (h : 0 ≤ x) (h2 : x < 256) : x = ((UInt8.ofNat x.toNat).toNat : Int) := by
  rw [UInt8.toNat_ofNat']
  omega
theorem appendNumber_int (base : Nat) (v : Value) (l : List UInt8) (x k' : Int) (k : Nat) (hk' : k' = (k : Int)) (w : World) (hown : Own w base v l) (hbase : base ≤ w.heap.size) (hx0 : 0 ≤ x) (hx : x < 4294967296) (hk : k ≤ 4) (hl : l.length ≤ 1000) :
    Calls Tryz.prog 182 #[v, .int .i64 x, .int .i64 k'] w fun e w' => ∃ v', e = .returned v' ∧ Own w' base v' (l ++ num x.toNat k) ∧ Below base w w' := by
  subst hk'
  obtain ⟨y, rfl⟩ := Int.eq_ofNat_of_zero_le hx0
  exact appendNumber_any base v l y k w hown hbase (by omega) hk hl
/-- The two boxes of a function that takes a group and a frame. -/
structure Boxes (z : Nat) (x : World) (N W B L K F O S Lw : Int) (ad : Option Addr) (len cap : Nat) (body : ByteArray) : Prop where
  n : x.cell? ⟨z, 0, none⟩ = some (.int .i64 N)
  w : x.cell? ⟨z, 1, none⟩ = some (.int .i64 W)
  b : x.cell? ⟨z, 2, none⟩ = some (.int .i64 B)
  l : x.cell? ⟨z, 3, none⟩ = some (.int .i64 L)
  k : x.cell? ⟨z + 1, 0, none⟩ = some (.int .i64 K)
  f : x.cell? ⟨z + 1, 1, none⟩ = some (.int .i64 F)
  o : x.cell? ⟨z + 1, 2, none⟩ = some (.int .i64 O)
  s : x.cell? ⟨z + 1, 3, none⟩ = some (.int .i64 S)
  lw : x.cell? ⟨z + 1, 4, none⟩ = some (.int .i64 Lw)
  v : x.cell? ⟨z + 1, 5, none⟩ = some (.slice ad len cap)
  t : x.cell? ⟨z + 1, 6, none⟩ = some (.string body)
  z : z + 2 ≤ x.heap.size
theorem boxes_start (w : World) (N W B L K F O S Lw : Int) (ad : Option Addr) (len cap : Nat) (body : ByteArray) (tc tf : TypeId) :
    Boxes w.heap.size ((w.alloc (.cells #[.int .i64 N, .int .i64 W, .int .i64 B, .int .i64 L] tc)).alloc (.cells #[.int .i64 K, .int .i64 F, .int .i64 O, .int .i64 S, .int .i64 Lw, .slice ad len cap, .string body] tf)) N W B L K F O S Lw ad len cap body := by
  refine ⟨?_, ?_, ?_, ?_, ?_, ?_, ?_, ?_, ?_, ?_, ?_, ?_⟩ <;> simp
theorem Boxes.below {z : Nat} {x y : World} {N W B L K F O S Lw : Int} {ad : Option Addr} {len cap : Nat} {body : ByteArray} (h : Boxes z x N W B L K F O S Lw ad len cap body) {b : Nat} (hb : Below b x y) (hz : z + 2 ≤ b) : Boxes z y N W B L K F O S Lw ad len cap body := by
  have e0 : ∀ o, y.cell? ⟨z, o, none⟩ = x.cell? ⟨z, o, none⟩ := fun o => hb.cell (p := ⟨z, o, none⟩) (by show z < b; omega)
  have e1 : ∀ o, y.cell? ⟨z + 1, o, none⟩ = x.cell? ⟨z + 1, o, none⟩ := fun o => hb.cell (p := ⟨z + 1, o, none⟩) (by show z + 1 < b; omega)
  exact ⟨(e0 _).trans h.n, (e0 _).trans h.w, (e0 _).trans h.b, (e0 _).trans h.l, (e1 _).trans h.k, (e1 _).trans h.f, (e1 _).trans h.o, (e1 _).trans h.s, (e1 _).trans h.lw, (e1 _).trans h.v, (e1 _).trans h.t, Nat.le_trans h.z hb.size⟩

theorem vec_step {vs : List Int} {k : Nat} {x : Int} (hk : k < vs.length) (hx : x = vs.getD k 0) : vecBytes (vs.take (k + 1)) = vecBytes (vs.take k) ++ num x.toNat 2 := by
  rw [List.take_succ_eq_append_getElem hk, vecBytes_append, hx]
  simp [vecBytes, List.getD_eq_getElem?_getD, hk]
theorem vec_bd {vs : List Int} (hv : ∀ v ∈ vs, 0 ≤ v ∧ v ≤ 65535) {k : Nat} {x : Int} (hk : k < vs.length) (hx : x = vs.getD k 0) : 0 ≤ x ∧ x ≤ 65535 := by
  rw [hx, List.getD_eq_getElem?_getD, List.getElem?_eq_getElem hk]
  exact hv _ (List.getElem_mem hk)

set_option maxRecDepth 100000 in
set_option maxHeartbeats 4000000 in
theorem appendHead_data (N W B L F O S Lw : Int) (ad : Option Addr) (len cap : Nat) (body : ByteArray) (vs : List Int) (w : World) (hi : Ints w ad len vs)
    (hN1 : 2 ≤ N) (hN2 : N ≤ 8) (hF1 : 0 ≤ F) (hF2 : F < N) (hO1 : 0 ≤ O) (hO2 : O < N) (hS1 : 1 ≤ S) (hS2 : S ≤ 65535) (hL1 : 0 ≤ Lw) (hL2 : Lw < S) (hlen : len ≤ 8) (hbd : body.size ≤ 40) (hv : ∀ v ∈ vs, 0 ≤ v ∧ v ≤ 65535) :
    Calls Tryz.prog 181 #[.slice none 0 0, .agg #[.int .i64 N, .int .i64 W, .int .i64 B, .int .i64 L], .agg #[.int .i64 1, .int .i64 F, .int .i64 O, .int .i64 S, .int .i64 Lw, .slice ad len cap, .string body]] w fun e w' => (∃ v, e = .returned v ∧ Own w' w.heap.size v (headBytes N 1 F O S Lw vs body.size)) ∧ Below w.heap.size w w' := by
  have HI : Hid (Ints w ad len vs) := hi
  have HV : Hid (∀ v ∈ vs, 0 ≤ v ∧ v ≤ 65535) := hv
  clear hi hv
  obtain ⟨i0, hi, hz0, hz1, hz2⟩ := info_parts Tryz.infoByte
  have BX0 := boxes_start w N W B L 1 F O S Lw ad len cap body 26 45
  have HBX0 : Hid _ := BX0
  clear BX0
  have B0 := below2 w (.cells #[.int .i64 N, .int .i64 W, .int .i64 B, .int .i64 L] 26) (.cells #[.int .i64 1, .int .i64 F, .int .i64 O, .int .i64 S, .int .i64 Lw, .slice ad len cap, .string body] 45)
  have HB0 : Hid _ := B0
  clear B0
  go_enter Tryz.func181, Tryz.ntmps181
  go_wp2_with (at_builtin; refine Lib.wpList_append_own_string _ rfl (.tmp 9) _ 241 9 rfl (w.heap.size + 2) 5 i0 Tryz.underlying241 Tryz.underlying9 hi hz0 hz1 hz2 _ _ _ rfl (Own.nil _ _) _ rfl ?a1 ?a2 ?a3 ?_)
  case a1 => decide
  case a2 => decide
  case a3 => simp
  intro v1 w1 hown1 hgrow1 _
  have R1 := Own.str _ [104, 115] rfl (Own.nil _ _) hown1 hgrow1 (by simp)
  have HO1 : Hid _ := R1.1
  have HB1 : Hid _ := R1.2
  have BX1 := HBX0.out.below R1.2 (Nat.le_refl _)
  have HBX1 : Hid _ := BX1
  obtain ⟨cN, cW, cB, cL, cK, cF, cO, cS, cLw, cV, cT, cz⟩ := BX1
  clear hown1 hgrow1 R1
  go_wp2_with (at_builtin; refine wpList_append_own _ rfl (.tmp 11) (.tmp 21) 241 rfl (w.heap.size + 2) 5 i0 (.int .u8 0) 1 1 Tryz.underlying241 hi hz0 hz1 hz2 rfl (by decide) _ _ _ rfl (HO1.out.alloc _) ⟨w1.heap.size, 0, none⟩ 3 3 [.int .u8 1, .int .u8 N, .int .u8 F] rfl rfl ?b1 ?b2 ?b3 ?b4 ?b5 ?_)
  case b1 =>
    intro q u hq
    match q, hq with
    | 0, hq => simp at hq; subst hq; simp [Addr.add]
    | 1, hq => simp at hq; subst hq; simp [Addr.add]
    | 2, hq => simp at hq; subst hq; simp [Addr.add]
  case b2 => intro u hu; simp at hu; rcases hu with rfl | rfl | rfl <;> rfl
  case b3 => decide
  case b4 => decide
  case b5 => simp; omega
  intro v2 w2 hown2 hgrow2 _
  have R2 := Own.snoc [1, UInt8.ofNat N.toNat, UInt8.ofNat F.toNat] _ (by show _ = [Value.int .u8 1, .int .u8 ((UInt8.ofNat N.toNat).toNat : Int), .int .u8 ((UInt8.ofNat F.toNat).toNat : Int)]; rw [← byte_in (by omega) (by omega), ← byte_in hF1 (by omega)]) 3 rfl _ HO1.out hown2 hgrow2 cz
  have HO2 : Hid _ := R2.1
  have HB2 : Hid _ := R2.2
  have BX2 := HBX1.out.below R2.2 (Nat.le_refl _)
  have HBX2 : Hid _ := BX2
  clear cN cW cB cL cK cF cO cS cLw cV cT cz
  obtain ⟨cN, cW, cB, cL, cK, cF, cO, cS, cLw, cV, cT, cz⟩ := BX2
  clear hown2 hgrow2 R2
  go_wp2_with (at_builtin; refine wpList_append_own _ rfl (.tmp 26) (.tmp 30) 241 rfl (w.heap.size + 2) 5 i0 (.int .u8 0) 1 1 Tryz.underlying241 hi hz0 hz1 hz2 rfl (by decide) _ _ _ rfl (HO2.out.alloc _) ⟨w2.heap.size, 0, none⟩ 1 1 [.int .u8 O] rfl rfl ?d1 ?d2 ?d3 ?d4 ?d5 ?_)
  case d1 =>
    intro q u hq
    match q, hq with
    | 0, hq => simp at hq; subst hq; simp [Addr.add]
  case d2 => intro u hu; simp at hu; subst hu; rfl
  case d3 => unfold maxLen; simp
  case d4 => simp
  case d5 => simp; omega
  intro v3 w3 hown3 hgrow3 _
  have R3 := Own.snoc [UInt8.ofNat O.toNat] _ (by show _ = [Value.int .u8 ((UInt8.ofNat O.toNat).toNat : Int)]; rw [← byte_in hO1 (by omega)]) 1 rfl _ HO2.out hown3 hgrow3 cz
  have HO3 : Hid _ := R3.1
  have HB3 : Hid _ := R3.2
  have BX3 := HBX2.out.below R3.2 (Nat.le_refl _)
  have HBX3 : Hid _ := BX3
  clear cN cW cB cL cK cF cO cS cLw cV cT cz
  obtain ⟨cN, cW, cB, cL, cK, cF, cO, cS, cLw, cV, cT, cz⟩ := BX3
  clear hown3 hgrow3 R3
  go_wp2_with fail
  refine (appendNumber_int (w.heap.size + 2) v3 _ S 2 2 rfl w3 HO3.out cz (by omega) (by omega) (by omega) (by simp)).mono ?_
  rintro e w4 ⟨v4, rfl, hown4, hb4⟩
  have HO4 : Hid _ := hown4
  have HB4 : Hid _ := hb4
  have BX4 := HBX3.out.below hb4 (Nat.le_refl _)
  have HBX4 : Hid _ := BX4
  clear cN cW cB cL cK cF cO cS cLw cV cT cz
  obtain ⟨cN, cW, cB, cL, cK, cF, cO, cS, cLw, cV, cT, cz⟩ := BX4
  clear hown4 hb4
  go_wp2_with fail
  refine (appendNumber_int (w.heap.size + 2) v4 _ Lw 2 2 rfl w4 HO4.out cz (by omega) (by omega) (by omega) (by simp [num_length])).mono ?_
  rintro e w5 ⟨v5, rfl, hown5, hb5⟩
  have HO5 : Hid _ := hown5
  have HB5 : Hid _ := hb5
  have BX5 := HBX4.out.below hb5 (Nat.le_refl _)
  have HBX5 : Hid _ := BX5
  clear cN cW cB cL cK cF cO cS cLw cV cT cz
  obtain ⟨cN, cW, cB, cL, cK, cF, cO, cS, cLw, cV, cT, cz⟩ := BX5
  clear hown5 hb5
  obtain ⟨pre, hpre⟩ : ∃ pre, pre = [] ++ [104, 115] ++ [1, UInt8.ofNat N.toNat, UInt8.ofNat F.toNat] ++ [UInt8.ofNat O.toNat] ++ num S.toNat 2 ++ num Lw.toNat 2 := ⟨_, rfl⟩
  have hpl : pre.length = 10 := by rw [hpre]; simp [num_length]
  have HP : Hid (pre = [] ++ [104, 115] ++ [1, UInt8.ofNat N.toNat, UInt8.ofNat F.toNat] ++ [UInt8.ofNat O.toNat] ++ num S.toNat 2 ++ num Lw.toNat 2) := hpre
  have HO6 : Hid (Own w5 (w.heap.size + 2) v5 pre) := by rw [hpre]; exact HO5.out
  clear HO5 hpre
  have HPL : Hid (pre.length = 10) := hpl
  clear hpl
  have HBall : Hid (Below (w.heap.size + 2) ((w.alloc (.cells #[.int .i64 N, .int .i64 W, .int .i64 B, .int .i64 L] 26)).alloc (.cells #[.int .i64 1, .int .i64 F, .int .i64 O, .int .i64 S, .int .i64 Lw, .slice ad len cap, .string body] 45)) w5) := HB1.out.trans (HB2.out.trans (HB3.out.trans (HB4.out.trans HB5.out)))
  clear HO1 HO2 HO3 HO4 HB1 HB2 HB3 HB4 HB5 HBX1 HBX2 HBX3 HBX4
  have hlen8 : (len : Int) ≤ 8 := by omega
  have HL : Hid (vs.length = len) := HI.out.len
  go_wp2
  go_loopw [0, 43] (fun u c wr => ∃ k : Nat, k ≤ len ∧ c = .int .i64 k ∧ Own wr (w.heap.size + 2) u (pre ++ vecBytes (vs.take k)) ∧ Below (w.heap.size + 2) w5 wr) (fun _ c _ => len - (intOf c).toNat)
  case atStart => exact ⟨0, Nat.zero_le _, rfl, by simpa [vecBytes] using HO6.out, Below.refl _ _⟩
  case round =>
    obtain ⟨k, hk, rfl, hown, hbel⟩ := hrel
    have HO : Hid (Own wr (w.heap.size + 2) _ (pre ++ vecBytes (vs.take k))) := hown
    have HB : Hid (Below (w.heap.size + 2) w5 wr) := hbel
    have HBX : Hid _ := HBX5.out.below hbel (Nat.le_refl _)
    have BXr := HBX.out
    clear hown hbel cN cW cB cL cK cF cO cS cLw cV cT cz
    obtain ⟨cN, cW, cB, cL, cK, cF, cO, cS, cLw, cV, cT, cz⟩ := BXr
    by_cases hlt : k < len
    · obtain ⟨b, off, rfl, hbl, hcell⟩ := HI.out.cell k hlt
      obtain ⟨x, hx⟩ : ∃ x, x = vs.getD k 0 := ⟨_, rfl⟩
      rw [← hx] at hcell
      have HX : Hid (x = vs.getD k 0) := hx
      clear hx
      have hxb := vec_bd HV.out (by rw [HL.out]; exact hlt) HX.out
      obtain ⟨hx0, hx1⟩ := hxb
      have hcr : wr.cell? ⟨b, off + k, none⟩ = some (.int .i64 x) := by
        have e1 := (HBall.out.trans HB.out).cell (p := ⟨b, off + k, none⟩) (show b < w.heap.size + 2 by omega)
        have e2 := HB0.out.cell (p := ⟨b, off + k, none⟩) hbl
        rw [e1, e2]; exact hcell
      clear hcell
      go_wp2_with fail
      refine (appendNumber_int (w.heap.size + 2) _ _ x 2 2 rfl wr HO.out cz hx0 (by omega) (by omega) (by have := vecBytes_length (vs.take k); have h2 := List.length_take_le k vs; simp [HPL.out, this]; omega)).mono ?_
      rintro e w6 ⟨v6, rfl, hown6, hb6⟩
      have HO7 : Hid (Own w6 (w.heap.size + 2) v6 (pre ++ vecBytes (vs.take (k + 1)))) := by
        rw [vec_step (by rw [HL.out]; exact hlt) HX.out, ← List.append_assoc]; exact hown6
      have HB7 : Hid _ := hb6
      clear hown6 hb6
      go_wp2
      go_roundw
      case rel => exact ⟨k + 1, by omega, by go_num, HO7.out, HB.out.trans HB7.out⟩
      case measure => simp [intOf]; omega
    · have ho8 := HO.out
      rw [List.take_of_length_le (by rw [HL.out]; omega)] at ho8
      have HO8 : Hid _ := ho8
      clear HO ho8
      go_wp2_with (at_builtin; refine wpList_append_own _ rfl (.tmp 54) (.tmp 59) 241 rfl (w.heap.size + 2) 5 i0 (.int .u8 0) 1 1 Tryz.underlying241 hi hz0 hz1 hz2 rfl (by decide) _ _ _ rfl (HO8.out.alloc _) ⟨wr.heap.size, 0, none⟩ 1 1 [.int .u8 (body.size : Int)] rfl rfl ?e1 ?e2 ?e3 ?e4 ?e5 ?_)
      case e1 =>
        intro q u hq
        match q, hq with
        | 0, hq => simp at hq; subst hq; simp [Addr.add]
      case e2 => intro u hu; simp at hu; subst hu; rfl
      case e3 => have := vecBytes_length vs; have h9 := HL.out; have h8 := HPL.out; unfold maxLen; simp [h8, this]; omega
      case e4 => have := vecBytes_length vs; have h9 := HL.out; have h8 := HPL.out; simp [h8, this]; omega
      case e5 => simp; omega
      intro v9 w9 hown9 hgrow9 _
      rw [← List.length_append] at hown9
      have R9 := Own.snoc [UInt8.ofNat body.size] [Value.int .u8 (body.size : Int)] (by show _ = [Value.int .u8 ((UInt8.ofNat body.size).toNat : Int)]; have := byte_in (x := (body.size : Int)) (by omega) (by omega); rw [Int.toNat_natCast] at this; rw [← this]) 1 rfl _ HO8.out hown9 hgrow9 cz
      have HO9 : Hid _ := R9.1
      have HB9 : Hid _ := R9.2
      clear hown9 hgrow9 R9
      go_wp2
      go_ret
      refine ⟨⟨_, rfl, ?_⟩, HB0.out.trans ((HBall.out.trans (HB.out.trans HB9.out)).mono (by omega))⟩
      have h9 := HO9.out
      rw [HP.out] at h9
      have e : headBytes N 1 F O S Lw vs body.size = [] ++ [104, 115] ++ [1, UInt8.ofNat N.toNat, UInt8.ofNat F.toNat] ++ [UInt8.ofNat O.toNat] ++ num S.toNat 2 ++ num Lw.toNat 2 ++ vecBytes vs ++ [UInt8.ofNat body.size] := by
        simp [headBytes]
      rw [e]
      exact Own.mono h9 (by omega)

set_option maxRecDepth 100000 in
set_option maxHeartbeats 4000000 in
theorem appendHead_state (N W B L F O S Lw : Int) (ad : Option Addr) (len cap : Nat) (body : ByteArray) (vs : List Int) (w : World) (hi : Ints w ad len vs)
    (hN1 : 2 ≤ N) (hN2 : N ≤ 8) (hF1 : 0 ≤ F) (hF2 : F < N) (hlen : len ≤ 8) (hv : ∀ v ∈ vs, 0 ≤ v ∧ v ≤ 65535) :
    Calls Tryz.prog 181 #[.slice none 0 0, .agg #[.int .i64 N, .int .i64 W, .int .i64 B, .int .i64 L], .agg #[.int .i64 2, .int .i64 F, .int .i64 O, .int .i64 S, .int .i64 Lw, .slice ad len cap, .string body]] w fun e w' => (∃ v, e = .returned v ∧ Own w' w.heap.size v (headBytes N 2 F O S Lw vs body.size)) ∧ Below w.heap.size w w' := by
  have HI : Hid (Ints w ad len vs) := hi
  have HV : Hid (∀ v ∈ vs, 0 ≤ v ∧ v ≤ 65535) := hv
  clear hi hv
  obtain ⟨i0, hi, hz0, hz1, hz2⟩ := info_parts Tryz.infoByte
  have BX0 := boxes_start w N W B L 2 F O S Lw ad len cap body 26 45
  have HBX0 : Hid _ := BX0
  clear BX0
  have B0 := below2 w (.cells #[.int .i64 N, .int .i64 W, .int .i64 B, .int .i64 L] 26) (.cells #[.int .i64 2, .int .i64 F, .int .i64 O, .int .i64 S, .int .i64 Lw, .slice ad len cap, .string body] 45)
  have HB0 : Hid _ := B0
  clear B0
  go_enter Tryz.func181, Tryz.ntmps181
  go_wp2_with (at_builtin; refine Lib.wpList_append_own_string _ rfl (.tmp 9) _ 241 9 rfl (w.heap.size + 2) 5 i0 Tryz.underlying241 Tryz.underlying9 hi hz0 hz1 hz2 _ _ _ rfl (Own.nil _ _) _ rfl ?a1 ?a2 ?a3 ?_)
  case a1 => decide
  case a2 => decide
  case a3 => simp
  intro v1 w1 hown1 hgrow1 _
  have R1 := Own.str _ [104, 115] rfl (Own.nil _ _) hown1 hgrow1 (by simp)
  have HO1 : Hid _ := R1.1
  have HB1 : Hid _ := R1.2
  have BX1 := HBX0.out.below R1.2 (Nat.le_refl _)
  have HBX1 : Hid _ := BX1
  obtain ⟨cN, cW, cB, cL, cK, cF, cO, cS, cLw, cV, cT, cz⟩ := BX1
  clear hown1 hgrow1 R1
  go_wp2_with (at_builtin; refine wpList_append_own _ rfl (.tmp 11) (.tmp 21) 241 rfl (w.heap.size + 2) 5 i0 (.int .u8 0) 1 1 Tryz.underlying241 hi hz0 hz1 hz2 rfl (by decide) _ _ _ rfl (HO1.out.alloc _) ⟨w1.heap.size, 0, none⟩ 3 3 [.int .u8 2, .int .u8 N, .int .u8 F] rfl rfl ?b1 ?b2 ?b3 ?b4 ?b5 ?_)
  case b1 =>
    intro q u hq
    match q, hq with
    | 0, hq => simp at hq; subst hq; simp [Addr.add]
    | 1, hq => simp at hq; subst hq; simp [Addr.add]
    | 2, hq => simp at hq; subst hq; simp [Addr.add]
  case b2 => intro u hu; simp at hu; rcases hu with rfl | rfl | rfl <;> rfl
  case b3 => decide
  case b4 => decide
  case b5 => simp; omega
  intro v2 w2 hown2 hgrow2 _
  have R2 := Own.snoc [2, UInt8.ofNat N.toNat, UInt8.ofNat F.toNat] _ (by show _ = [Value.int .u8 2, .int .u8 ((UInt8.ofNat N.toNat).toNat : Int), .int .u8 ((UInt8.ofNat F.toNat).toNat : Int)]; rw [← byte_in (by omega) (by omega), ← byte_in hF1 (by omega)]) 3 rfl _ HO1.out hown2 hgrow2 cz
  have HO2 : Hid _ := R2.1
  have HB2 : Hid _ := R2.2
  have BX2 := HBX1.out.below R2.2 (Nat.le_refl _)
  have HBX2 : Hid _ := BX2
  clear cN cW cB cL cK cF cO cS cLw cV cT cz
  obtain ⟨cN, cW, cB, cL, cK, cF, cO, cS, cLw, cV, cT, cz⟩ := BX2
  clear hown2 hgrow2 R2
  obtain ⟨pre, hpre⟩ : ∃ pre, pre = [] ++ [104, 115] ++ [2, UInt8.ofNat N.toNat, UInt8.ofNat F.toNat] := ⟨_, rfl⟩
  have hpl : pre.length = 5 := by rw [hpre]; simp
  have HP : Hid (pre = [] ++ [104, 115] ++ [2, UInt8.ofNat N.toNat, UInt8.ofNat F.toNat]) := hpre
  have HO6 : Hid (Own w2 (w.heap.size + 2) v2 pre) := by rw [hpre]; exact HO2.out
  clear HO2 hpre
  have HPL : Hid (pre.length = 5) := hpl
  clear hpl
  have HBall : Hid (Below (w.heap.size + 2) ((w.alloc (.cells #[.int .i64 N, .int .i64 W, .int .i64 B, .int .i64 L] 26)).alloc (.cells #[.int .i64 2, .int .i64 F, .int .i64 O, .int .i64 S, .int .i64 Lw, .slice ad len cap, .string body] 45)) w2) := HB1.out.trans HB2.out
  clear HO1 HB1 HB2 HBX1
  have hlen8 : (len : Int) ≤ 8 := by omega
  have HL : Hid (vs.length = len) := HI.out.len
  go_wp2
  go_loopw [0, 43] (fun u c wr => ∃ k : Nat, k ≤ len ∧ c = .int .i64 k ∧ Own wr (w.heap.size + 2) u (pre ++ vecBytes (vs.take k)) ∧ Below (w.heap.size + 2) w2 wr) (fun _ c _ => len - (intOf c).toNat)
  case atStart => exact ⟨0, Nat.zero_le _, rfl, by simpa [vecBytes] using HO6.out, Below.refl _ _⟩
  case round =>
    obtain ⟨k, hk, rfl, hown, hbel⟩ := hrel
    have HO : Hid (Own wr (w.heap.size + 2) _ (pre ++ vecBytes (vs.take k))) := hown
    have HB : Hid (Below (w.heap.size + 2) w2 wr) := hbel
    have HBX : Hid _ := HBX2.out.below hbel (Nat.le_refl _)
    have BXr := HBX.out
    clear hown hbel cN cW cB cL cK cF cO cS cLw cV cT cz
    obtain ⟨cN, cW, cB, cL, cK, cF, cO, cS, cLw, cV, cT, cz⟩ := BXr
    by_cases hlt : k < len
    · obtain ⟨b, off, rfl, hbl, hcell⟩ := HI.out.cell k hlt
      obtain ⟨x, hx⟩ : ∃ x, x = vs.getD k 0 := ⟨_, rfl⟩
      rw [← hx] at hcell
      have HX : Hid (x = vs.getD k 0) := hx
      clear hx
      have hxb := vec_bd HV.out (by rw [HL.out]; exact hlt) HX.out
      obtain ⟨hx0, hx1⟩ := hxb
      have hcr : wr.cell? ⟨b, off + k, none⟩ = some (.int .i64 x) := by
        have e1 := (HBall.out.trans HB.out).cell (p := ⟨b, off + k, none⟩) (show b < w.heap.size + 2 by omega)
        have e2 := HB0.out.cell (p := ⟨b, off + k, none⟩) hbl
        rw [e1, e2]; exact hcell
      clear hcell
      go_wp2_with fail
      refine (appendNumber_int (w.heap.size + 2) _ _ x 2 2 rfl wr HO.out cz hx0 (by omega) (by omega) (by have := vecBytes_length (vs.take k); have h2 := List.length_take_le k vs; simp [HPL.out, this]; omega)).mono ?_
      rintro e w6 ⟨v6, rfl, hown6, hb6⟩
      have HO7 : Hid (Own w6 (w.heap.size + 2) v6 (pre ++ vecBytes (vs.take (k + 1)))) := by
        rw [vec_step (by rw [HL.out]; exact hlt) HX.out, ← List.append_assoc]; exact hown6
      have HB7 : Hid _ := hb6
      clear hown6 hb6
      go_wp2
      go_roundw
      case rel => exact ⟨k + 1, by omega, by go_num, HO7.out, HB.out.trans HB7.out⟩
      case measure => simp [intOf]; omega
    · have ho8 := HO.out
      rw [List.take_of_length_le (by rw [HL.out]; omega)] at ho8
      have HO8 : Hid _ := ho8
      clear HO ho8
      go_wp2
      go_ret
      refine ⟨⟨_, rfl, ?_⟩, HB0.out.trans ((HBall.out.trans HB.out).mono (by omega))⟩
      have h9 := HO8.out
      rw [HP.out] at h9
      have e : headBytes N 2 F O S Lw vs body.size = [] ++ [104, 115] ++ [2, UInt8.ofNat N.toNat, UInt8.ofNat F.toNat] ++ vecBytes vs := by
        simp [headBytes]
      rw [e]
      exact Own.mono h9 (by omega)
end Go.Proofs.YtabecbjfamphbaaGreatDoor
