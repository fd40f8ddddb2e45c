/-
  The walks of the two check sums: the program's Sum and the reference's Sum both answer Crc.sum.
-/
import Derived.Test.YtabecbjfamphbaaDoorRows
import Derived.Test.YtabecbjfamphbaaDoorCrc
import Derived.WalkKit
import Derived.WalkSpells
import Derived.WalkLawsBesides
import Derived.Laws.BitsAllLaws
import Derived.Outline
namespace Go.Proofs.YtabecbjfamphbaaDoor
open Go.RowKit

theorem ret_int {k : IntKind} {a b : Int} (h : a = b) : Ending.returned (.int k a) = .returned (.int k b) := by rw [h]
theorem val_int {k : IntKind} {a b : Int} (h : a = b) : Value.int k a = .int k b := by rw [h]
theorem xor_start {p b : Nat} (hp : p < 4294967296) (hb : b < 256) : bits .xor .u32 (p : Int) (b : Int) = ((Crc.bits 0 (p ^^^ b) : Nat) : Int) :=
  u32_xor_nat p b hp (by omega)
theorem and_one {q : Nat} (hq : q < 4294967296) : bits .and .u32 (q : Int) 1 = ((q % 2 : Nat) : Int) := by
  have h := u32_and_nat q 1 hq (by decide)
  rw [Nat.and_one_is_mod] at h
  exact h
theorem step_yes {q x j : Nat} (hq : q < 4294967296) (h : (bits .and .u32 (q : Int) 1 == 1) = true) (hx : Crc.bits j x = q) :
    bits .xor .u32 ((q : Int) / 2) 3988292384 = ((Crc.bits (j + 1) x : Nat) : Int) := by
  rw [and_one hq] at h
  have h1 : q % 2 = 1 := by have := beq_iff_eq.1 h; omega
  have e : Crc.bits (j + 1) x = (q / 2) ^^^ Crc.poly := by show Crc.one (Crc.bits j x) = _; rw [hx]; unfold Crc.one; rw [if_pos h1]
  rw [e]
  have := u32_xor_nat (q / 2) 3988292384 (by omega) (by decide)
  rw [show Crc.poly = 3988292384 from rfl]
  simpa using this
theorem step_no {q x j : Nat} (hq : q < 4294967296) (h : (bits .and .u32 (q : Int) 1 == 1) = false) (hx : Crc.bits j x = q) :
    ((q : Int) / 2) = ((Crc.bits (j + 1) x : Nat) : Int) := by
  rw [and_one hq] at h
  have h1 : ¬ q % 2 = 1 := by have := beq_eq_false_iff_ne.1 h; omega
  have e : Crc.bits (j + 1) x = q / 2 := by show Crc.one (Crc.bits j x) = _; rw [hx]; unfold Crc.one; rw [if_neg h1]
  rw [e]; omega

theorem i64_xor_nat (a b : Nat) (ha : a < 4611686018427387904) (hb : b < 4611686018427387904) : bits .xor .i64 (a : Int) (b : Int) = ((a ^^^ b : Nat) : Int) := by
  have hx : a ^^^ b < 2 ^ 62 := Nat.xor_lt_two_pow (by omega) (by omega)
  have o : ∀ n : Nat, n < 4611686018427387904 → (BitVec.ofInt 64 (n : Int)).toNat = n := fun n hn => by
    rw [BitVec.ofInt_natCast, BitVec.toNat_ofNat]; exact Nat.mod_eq_of_lt (by omega)
  show IntKind.i64.wrap ((BitVec.ofInt 64 (a : Int) ^^^ BitVec.ofInt 64 (b : Int)).toNat : Int) = _
  rw [BitVec.toNat_xor, o a ha, o b hb]
  generalize a ^^^ b = c at *
  simp only [IntKind.wrap, IntKind.bits, IntKind.signed]
  simp
  omega
theorem shr_bit {b j : Nat} (hb : b < 256) : (wrap64 ((b : Int) / 2 ^ j)).tmod 2 = ((b / 2 ^ j % 2 : Nat) : Int) := by
  have e : ((b : Int) / 2 ^ j) = ((b / 2 ^ j : Nat) : Int) := by simp
  have hle : b / 2 ^ j ≤ b := Nat.div_le_self _ _
  rw [e]
  generalize b / 2 ^ j = c at *
  rw [IntWalk.wrap64_in _ (by omega), Int.tmod_eq_emod_of_nonneg (by omega)]
  omega
theorem ref_yes {q x b j : Nat} (hq : q < 4294967296) (hb : b < 256) (h : ((q : Int) % 2 != (wrap64 ((b : Int) / 2 ^ j)).tmod 2) = true) (hx : Crc.refBits b j x = q) :
    bits .xor .i64 ((q : Int) / 2) 3988292384 = ((Crc.refBits b (j + 1) x : Nat) : Int) := by
  rw [shr_bit hb] at h
  have h1 : q % 2 ≠ b / 2 ^ j % 2 := by have := bne_iff_ne.1 h; omega
  have e : Crc.refBits b (j + 1) x = (q / 2) ^^^ Crc.poly := by show Crc.refOne b j (Crc.refBits b j x) = _; rw [hx]; unfold Crc.refOne; rw [if_pos h1]
  rw [e]
  have := i64_xor_nat (q / 2) 3988292384 (by omega) (by decide)
  rw [show Crc.poly = 3988292384 from rfl]
  simpa using this
theorem ref_no {q x b j : Nat} (hb : b < 256) (h : ((q : Int) % 2 != (wrap64 ((b : Int) / 2 ^ j)).tmod 2) = false) (hx : Crc.refBits b j x = q) :
    ((q : Int) / 2) = ((Crc.refBits b (j + 1) x : Nat) : Int) := by
  rw [shr_bit hb] at h
  have h1 : q % 2 = b / 2 ^ j % 2 := by have := bne_eq_false_iff_eq.1 h; omega
  have e : Crc.refBits b (j + 1) x = q / 2 := by show Crc.refOne b j (Crc.refBits b j x) = _; rw [hx]; unfold Crc.refOne; rw [if_neg (by simp [h1])]
  rw [e]; omega
theorem xor_all {p : Nat} (h : p < 4294967296) : 4294967295 ^^^ p = 4294967295 - p := by
  have := Nat.xor_mod_two_pow (a := 4294967295) (b := p) (n := 32)
  have e := BitVec.toNat_not (x := BitVec.ofNat 32 p)
  have e2 : ~~~ (BitVec.ofNat 32 p) = BitVec.allOnes 32 ^^^ BitVec.ofNat 32 p := by rw [BitVec.allOnes_xor]
  rw [e2, BitVec.toNat_xor, BitVec.toNat_allOnes, BitVec.toNat_ofNat, Nat.mod_eq_of_lt (by omega)] at e
  simpa using e
theorem not_u32 {p : Nat} (h : p < 4294967296) : wrap64 (bits .xor .u32 IntKind.u32.max (p : Int)) = ((4294967295 - p : Nat) : Int) := by
  have hm : IntKind.u32.max = ((4294967295 : Nat) : Int) := by decide
  rw [hm, u32_xor_nat _ _ (by decide) h, xor_all h, IntWalk.wrap64_in _ (by omega)]
theorem sum_all {s : ByteArray} {k p : Nat} (hk : ¬ k < s.size) (h : Crc.state (s.data.toList.take k) = p) : Crc.sum s.data.toList = 4294967295 - p := by
  rw [← h, List.take_of_length_le (by simpa using hk)]; rfl

set_option maxHeartbeats 400000 in
theorem wireSum_any (s : ByteArray) (w : World) (hs : s.size ≤ maxLen) :
    Calls Tryd.prog 38 #[.string s] w fun e w' => e = .returned (.int .i64 (Crc.sum s.data.toList)) ∧ w' = w := by
  unfold maxLen at hs
  go_enter Tryd.func38, Tryd.ntmps38
  go_wp2
  go_loop [3, 8] (fun n i => ∃ k : Nat, k ≤ s.size ∧ i = .int .i64 k ∧ n = .int .u32 (Crc.state (s.data.toList.take k))) (fun _ i => s.size - (intOf i).toNat)
  case atStart => exact ⟨0, Nat.zero_le _, rfl, rfl⟩
  case round =>
    obtain ⟨k, hk, rfl, rfl⟩ := hrel
    have hst := Crc.state_lt (s.data.toList.take k)
    generalize hg : Crc.state (s.data.toList.take k) = p at *
    have HG : Hid (Crc.state (s.data.toList.take k) = p) := hg
    clear hg
    by_cases hlt : k < s.size
    · have hb := s[k].toNat_lt
      have HS : Hid (Crc.state (s.data.toList.take (k + 1)) = Crc.bits 8 (p ^^^ s[k].toNat)) := by rw [Crc.state_take s k hlt, HG.out]; rfl
      go_wp2
      go_loop [3, 17] (fun n i => ∃ j : Nat, j ≤ 8 ∧ i = .int .i64 j ∧ n = .int .u32 (Crc.bits j (p ^^^ s[k].toNat))) (fun _ i => 8 - (intOf i).toNat)
      case atStart => exact ⟨0, Nat.zero_le _, rfl, val_int (xor_start hst hb)⟩
      case round =>
        obtain ⟨j, hj, rfl, rfl⟩ := hrel
        have hq := Crc.bits_lt j (Crc.xor_lt hst (show s[k].toNat < 4294967296 by omega))
        generalize hgq : Crc.bits j (p ^^^ s[k].toNat) = q at *
        have HQ : Hid (Crc.bits j (p ^^^ s[k].toNat) = q) := hgq
        clear hgq
        by_cases hj8 : j < 8
        · go_wp2
          all_goals
            go_round
            case rel => exact ⟨j + 1, by omega, by go_num, val_int (by first | exact step_yes hq ‹_› HQ.out | exact step_no hq ‹_› HQ.out)⟩
            case measure => simp [intOf]; omega
        · go_wp2
          go_round
          case rel => exact ⟨k + 1, by omega, by go_num, val_int (by rw [HS.out, ← HQ.out, show j = 8 by omega])⟩
          case measure => simp [intOf]; omega
    · go_wp2
      go_ret
      exact ⟨ret_int (by rw [not_u32 hst, sum_all hlt HG.out]), rfl⟩

set_option maxHeartbeats 400000 in
theorem refSum_any (s : ByteArray) (w : World) (hs : s.size ≤ maxLen) :
    Calls Tryd.prog 19 #[.string s] w fun e w' => e = .returned (.int .i64 (Crc.sum s.data.toList)) ∧ w' = w := by
  unfold maxLen at hs
  go_enter Tryd.func19, Tryd.ntmps19
  go_wp2
  go_loop [3, 4] (fun n i => ∃ k : Nat, k ≤ s.size ∧ i = .int .i64 k ∧ n = .int .i64 (Crc.state (s.data.toList.take k))) (fun _ i => s.size - (intOf i).toNat)
  case atStart => exact ⟨0, Nat.zero_le _, rfl, rfl⟩
  case round =>
    obtain ⟨k, hk, rfl, rfl⟩ := hrel
    have hst := Crc.state_lt (s.data.toList.take k)
    generalize hg : Crc.state (s.data.toList.take k) = p at *
    have HG : Hid (Crc.state (s.data.toList.take k) = p) := hg
    clear hg
    by_cases hlt : k < s.size
    · have hb := s[k].toNat_lt
      have HS : Hid (Crc.state (s.data.toList.take (k + 1)) = Crc.refBits s[k].toNat 8 p) := by rw [Crc.state_take s k hlt, HG.out, Crc.ref_byte]; exact rfl
      go_wp2
      go_loop [3, 5] (fun n i => ∃ j : Nat, j ≤ 8 ∧ i = .int .i64 j ∧ n = .int .i64 (Crc.refBits s[k].toNat j p)) (fun _ i => 8 - (intOf i).toNat)
      case atStart => exact ⟨0, Nat.zero_le _, rfl, rfl⟩
      case round =>
        obtain ⟨j, hj, rfl, rfl⟩ := hrel
        have hq := Crc.refBits_lt s[k].toNat j hst
        generalize hgq : Crc.refBits s[k].toNat j p = q at *
        have HQ : Hid (Crc.refBits s[k].toNat j p = q) := hgq
        clear hgq
        by_cases hj8 : j < 8
        · go_wp2
          all_goals
            go_round
            case rel => exact ⟨j + 1, by omega, by go_num, val_int (by first | exact ref_yes hq hb ‹_› HQ.out | exact ref_no hb ‹_› HQ.out)⟩
            case measure => simp [intOf]; omega
        · go_wp2
          go_round
          case rel => exact ⟨k + 1, by omega, by go_num, val_int (by rw [HS.out, ← HQ.out, show j = 8 by omega])⟩
          case measure => simp [intOf]; omega
    · go_wp2
      go_ret
      exact ⟨ret_int (by rw [sum_all hlt HG.out]; omega), rfl⟩
end Go.Proofs.YtabecbjfamphbaaDoor
