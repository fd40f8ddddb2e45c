/-
  Numbers as bytes, the highest first: appendNumber.
-/
import Derived.Test.YtabecbjfamphbaaDoorFrame
import Derived.Lib.AppendStr
namespace Go.Proofs.YtabecbjfamphbaaDoor
open Go.RowKit Go.Stop Go.Extern

/-- number(x, k): the whole number x in k bytes, the highest first. -/
def num (x : Nat) : Nat → List UInt8
  | 0 => []
  | k + 1 => UInt8.ofNat (x / 256 ^ k) :: num x k
theorem num_length (x k : Nat) : (num x k).length = k := by
  induction k with
  | zero => rfl
  | succ k ih => simp [num, ih]
/-- Bytes as cells. -/
def bcells (l : List UInt8) : List Value := l.map fun b => Value.int .u8 b.toNat
theorem bcells_append (l m : List UInt8) : bcells (l ++ m) = bcells l ++ bcells m := by simp [bcells]
theorem bcells_one (b : UInt8) : bcells [b] = [Value.int .u8 b.toNat] := rfl
/-- A slice of bytes that the call itself has made. -/
def Own (w : World) (base : Nat) (v : Value) (l : List UInt8) : Prop := w.ownsRow base 5 1 v l.length (bcells l)
theorem Own.nil (w : World) (base : Nat) : Own w base (.slice none 0 0) [] := World.ownsRow_nil _ _ _ _
theorem Own.alloc {w : World} {base : Nat} {v : Value} {l : List UInt8} (h : Own w base v l) (o : Obj) : Own (w.alloc o) base v l := World.ownsRow.alloc h o
theorem Own.block {w : World} {base : Nat} {v : Value} {l : List UInt8} (h : Own w base v l) : ∀ k, v.ownBlock = some k → base ≤ k := by
  intro k hk
  rcases h.2 with ⟨rfl, _⟩ | ⟨g, cap, cur, rfl, hg, _⟩
  · cases hk
  · cases hk; exact hg
theorem Tryd.infoByte : (Tryd.prog.info? 5).map (fun i => (i.zero, i.size, i.bytes)) = some (some (.int .u8 0), 1, 1) := by kernel_rfl

theorem byte_of {x j : Nat} : ((x : Int) / 2 ^ (8 * j)) % 256 = ((UInt8.ofNat (x / 256 ^ j)).toNat : Int) := by
  rw [UInt8.toNat_ofNat', show (256 : Nat) ^ j = 2 ^ (8 * j) by rw [Nat.pow_mul]]
  simp
/-- What one append leaves. -/
theorem Own.snoc {w w' : World} {base : Nat} {v v' : Value} {l : List UInt8} (m : List UInt8) (cs : List Value) (hcs : cs = bcells m) (n : Nat) (hn : n = m.length) (o : Obj) (_h : Own w base v l) (h' : w'.ownsRow base 5 1 v' (l.length + n) (bcells l ++ cs)) (hg : (w.alloc o).grownBy w' v.ownBlock) (hb : base ≤ w.heap.size) : Own w' base v' (l ++ m) ∧ Below base w w' := by
  refine ⟨?_, ((Below.refl _ _).alloc hb o).grown hg (by simp; omega) _h.block⟩
  subst hcs hn
  unfold Own
  rw [bcells_append, List.length_append]
  exact h'

set_option maxHeartbeats 2000000 in
set_option maxRecDepth 100000 in
theorem appendNumber_any (base : Nat) (v : Value) (l : List UInt8) (x k : Nat) (w : World) (hown : Own w base v l) (hbase : base ≤ w.heap.size) (_hx : x < 4294967296) (hk : k ≤ 4) (hl : l.length ≤ 1000) :
    Calls Tryd.prog 49 #[v, .int .i64 x, .int .i64 k] w fun e w' => ∃ v', e = .returned v' ∧ Own w' base v' (l ++ num x k) ∧ Below base w w' := by
  have HO : Hid (Own w base v l) := hown
  clear hown
  have hk0 : (k : Int) ≤ 4 := by omega
  obtain ⟨i0, hi, hz0, hz1, hz2⟩ := info_parts Tryd.infoByte
  go_enter Tryd.func49, Tryd.ntmps49
  go_wp2
  go_loopw [0, 2] (fun u c wr => ∃ (j : Nat) (cur : List UInt8), j ≤ k ∧ c = .int .i64 j ∧ Own wr base u cur ∧ l ++ num x k = cur ++ num x j ∧ Below base w wr) (fun _ c _ => (intOf c).toNat)
  case atStart => exact ⟨k, l, Nat.le_refl _, rfl, HO.out, rfl, Below.refl _ _⟩
  case round =>
    obtain ⟨j, cur, hj, rfl, hcur, heq, hbel⟩ := hrel
    have HC : Hid (Own wr base _ cur) := hcur
    have HE : Hid (l ++ num x k = cur ++ num x j) := heq
    have HB : Hid (Below base w wr) := hbel
    have hcl : cur.length ≤ 1004 := by have := congrArg List.length heq; simp [num_length] at this; omega
    clear hcur heq hbel
    by_cases hj0 : 0 < j
    · obtain ⟨i, rfl⟩ : ∃ i, j = i + 1 := ⟨j - 1, by omega⟩
      have hbw : base ≤ wr.heap.size := Nat.le_trans hbase HB.out.size
      go_wp2_with (at_builtin; refine wpList_append_own _ rfl _ _ 70 rfl base 5 i0 (.int .u8 0) 1 1 Tryd.underlying70 hi hz0 hz1 hz2 rfl (by decide) _ _ _ rfl (HC.out.alloc _) ⟨wr.heap.size, 0, none⟩ 1 1 [.int .u8 ((x : Int) / 2 ^ (8 * i) % 256)] rfl rfl ?c1 ?c2 ?c3 ?c4 ?c5 ?_)
      case c1 =>
        intro q u hq
        match q, hq with
        | 0, hq => simp at hq; subst hq; simp [Addr.add]
      case c2 => intro u hu; simp at hu; subst hu; rfl
      case c3 => unfold maxLen; omega
      case c4 => omega
      case c5 => simp; omega
      · intro v' w1 hown' hgrow _
        have R := Own.snoc [UInt8.ofNat (x / 256 ^ i)] _ (by rw [byte_of]; rfl) 1 rfl _ HC.out hown' hgrow hbw
        have HR1 : Hid _ := R.1
        have HR2 : Hid _ := R.2
        have HE2 : Hid (l ++ num x k = (cur ++ [UInt8.ofNat (x / 256 ^ i)]) ++ num x i) := by have := HE.out; show l ++ num x k = _; rw [this]; simp [num]
        clear hown' hgrow R
        go_wp2
        go_roundw
        case rel => exact ⟨i, _, by omega, rfl, HR1.out, HE2.out, HB.out.trans HR2.out⟩
        case measure => simp [intOf]
    · go_wp2
      go_ret
      refine ⟨_, rfl, ?_, HB.out⟩
      have h0 : j = 0 := by omega
      subst h0
      have := HE.out
      rw [this]
      simpa [num] using HC.out
end Go.Proofs.YtabecbjfamphbaaDoor
