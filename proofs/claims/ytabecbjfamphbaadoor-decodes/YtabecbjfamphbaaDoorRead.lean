/-
  Numbers read out of a text: the program's readNumber, the reference's Value; where the text begins; how long frames are at least.
-/
import Derived.Test.YtabecbjfamphbaaDoorEnc
namespace Go.Proofs.YtabecbjfamphbaaDoor
open Go.RowKit Go.Stop Go.Extern

/-- The i-th byte of a text, as a number. -/
def byt (s : ByteArray) (i : Nat) : Nat := (s.data.toList.getD i 0).toNat
theorem byt_eq (s : ByteArray) (i : Nat) (h : i < s.size) : byt s i = s[i].toNat := by
  unfold byt
  rw [List.getD_eq_getElem?_getD, List.getElem?_eq_getElem (by simpa using h)]
  rfl
theorem byt_lt (s : ByteArray) (i : Nat) : byt s i < 256 := by
  unfold byt
  exact UInt8.toNat_lt _
/-- The number that k bytes from a place on are. -/
def val (s : ByteArray) (p : Nat) : Nat → Nat
  | 0 => 0
  | k + 1 => val s p k * 256 + byt s (p + k)
theorem val_lt (s : ByteArray) (p k : Nat) : val s p k < 256 ^ k := by
  induction k with
  | zero => simp [val]
  | succ k ih => have := byt_lt s (p + k); rw [Nat.pow_succ]; unfold val; omega
theorem val_le4 (s : ByteArray) (p k : Nat) (hk : k ≤ 4) : val s p k < 4294967296 := by
  have h1 := val_lt s p k
  have h2 : 256 ^ k ≤ 256 ^ 4 := Nat.pow_le_pow_right (by omega) hk
  omega
theorem val_le2 (s : ByteArray) (p : Nat) : val s p 2 < 65536 := val_lt s p 2
theorem or_byte {v b : Nat} (hv : v < 16777216) (hb : b < 256) : bits .or .i64 ((v : Int) * 256) (b : Int) = ((v * 256 + b : Nat) : Int) := by
  have hx : v * 256 ||| b = v * 256 + b := by
    have := Nat.two_pow_add_eq_or_of_lt (i := 8) (b := b) (by omega) v
    rw [show (2 : Nat) ^ 8 = 256 from rfl] at this
    rw [Nat.mul_comm v 256]
    omega
  have o : ∀ n : Nat, n < 4611686018427387904 → (BitVec.ofInt 64 (n : Int)).toNat = n := fun n hn => by
    rw [BitVec.ofInt_natCast, BitVec.toNat_ofNat]; exact Nat.mod_eq_of_lt (by omega)
  have e : (v : Int) * 256 = ((v * 256 : Nat) : Int) := by simp
  rw [e]
  show IntKind.i64.wrap ((BitVec.ofInt 64 ((v * 256 : Nat) : Int) ||| BitVec.ofInt 64 (b : Int)).toNat : Int) = _
  rw [BitVec.toNat_or, o _ (by omega), o _ (by omega), hx]
  generalize hc : v * 256 + b = c
  have : c < 4294967296 := by omega
  simp only [IntKind.wrap, IntKind.bits, IntKind.signed]
  simp
  omega

set_option maxRecDepth 100000 in
set_option maxHeartbeats 1000000 in
theorem readNumber_any (s : ByteArray) (p k : Nat) (w : World) (hs : s.size ≤ maxLen) (hk : k ≤ 4) (hp : p + k ≤ s.size) :
    Calls Tryd.prog 66 #[.string s, .int .i64 p, .int .i64 k] w fun e w' => e = .returned (.int .i64 (val s p k)) ∧ w' = w := by
  unfold maxLen at hs
  have hk4 : (k : Int) ≤ 4 := by omega
  go_enter Tryd.func66, Tryd.ntmps66
  go_wp2
  go_loop [7, 10] (fun v c => ∃ j : Nat, j ≤ k ∧ c = .int .i64 j ∧ v = .int .i64 (val s p j)) (fun _ c => k - (intOf c).toNat)
  case atStart => exact ⟨0, Nat.zero_le _, rfl, rfl⟩
  case round =>
    obtain ⟨j, hj, rfl, rfl⟩ := hrel
    have hv := val_le4 s p j (by omega)
    by_cases hlt : j < k
    · have hv3 : val s p j < 16777216 := by
        have h1 := val_lt s p j
        have h2 : 256 ^ j ≤ 256 ^ 3 := Nat.pow_le_pow_right (by omega) (by omega)
        omega
      have hidx : p + j < s.size := by omega
      have HS : Hid (val s p (j + 1) = val s p j * 256 + s[p + j].toNat) := by show val s p j * 256 + byt s (p + j) = _; rw [byt_eq s (p + j) hidx]
      have hb := s[p + j].toNat_lt
      generalize val s p j = v at *
      go_wp2
      go_round
      case rel => exact ⟨j + 1, by omega, by go_num, val_int (by rw [HS.out]; exact or_byte hv3 hb)⟩
      case measure => simp [intOf]; omega
    · have : j = k := by omega
      subst this
      go_wp2
      go_ret
      exact ⟨rfl, rfl⟩

set_option maxRecDepth 100000 in
set_option maxHeartbeats 1000000 in
theorem refValue_any (s : ByteArray) (p k : Nat) (w : World) (hs : s.size ≤ maxLen) (hk : k ≤ 4) (hp : p + k ≤ s.size) :
    Calls Tryd.prog 44 #[.string s, .int .i64 p, .int .i64 k] w fun e w' => e = .returned (.int .i64 (val s p k)) ∧ w' = w := by
  unfold maxLen at hs
  have hk4 : (k : Int) ≤ 4 := by omega
  go_enter Tryd.func44, Tryd.ntmps44
  go_wp2
  go_loop [7, 8] (fun v c => ∃ j : Nat, j ≤ k ∧ c = .int .i64 ((p : Int) + j) ∧ v = .int .i64 (val s p j)) (fun _ c => p + k - (intOf c).toNat)
  case atStart => exact ⟨0, Nat.zero_le _, by simp, rfl⟩
  case round =>
    obtain ⟨j, hj, rfl, rfl⟩ := hrel
    have hv := val_le4 s p j (by omega)
    by_cases hlt : j < k
    · have hidx : p + j < s.size := by omega
      have HS : Hid (val s p (j + 1) = val s p j * 256 + s[p + j].toNat) := by show val s p j * 256 + byt s (p + j) = _; rw [byt_eq s (p + j) hidx]
      have hb := s[p + j].toNat_lt
      generalize val s p j = v at *
      go_wp2
      go_round
      case rel => exact ⟨j + 1, by omega, val_int (by omega), val_int (by rw [HS.out]; omega)⟩
      case measure => simp [intOf]; omega
    · have : j = k := by omega
      subst this
      go_wp2
      go_ret
      exact ⟨rfl, rfl⟩

set_option maxHeartbeats 400000 in
theorem leastState_any (N W B L : Int) (h1 : 2 ≤ N) (h2 : N ≤ 8) (w : World) :
    Calls Tryd.prog 63 #[.agg #[.int .i64 N, .int .i64 W, .int .i64 B, .int .i64 L]] w fun e w' => e = .returned (.int .i64 (9 + 2 * N)) ∧ Below w.heap.size w w' := by
  go_enter Tryd.func63, Tryd.ntmps63
  go_wp2
  go_ret
  exact ⟨rfl, below1 _ _⟩
set_option maxHeartbeats 400000 in
theorem leastData_any (N W B L : Int) (h1 : 2 ≤ N) (h2 : N ≤ 8) (w : World) :
    Calls Tryd.prog 79 #[.agg #[.int .i64 N, .int .i64 W, .int .i64 B, .int .i64 L]] w fun e w' => e = .returned (.int .i64 (15 + 2 * N)) ∧ Below w.heap.size w w' := by
  go_enter Tryd.func79, Tryd.ntmps79
  go_wp2_with fail
  refine (leastState_any N W B L h1 h2 _).mono ?_
  rintro e w' ⟨rfl, hb⟩
  have HB : Hid _ := hb
  clear hb
  go_wp2
  go_ret
  exact ⟨ret_int (by omega), bthen (below1 _ _) HB.out⟩

/-- Does the text begin as a frame? -/
def marked (s : ByteArray) : Bool := decide (byt s 0 = 104 ∧ byt s 1 = 115)
theorem ext2 (s : ByteArray) (h : 2 ≤ s.size) : ((s.extract 0 2).toList == [104, 115]) = marked s := by
  obtain ⟨⟨l⟩⟩ := s
  match l, h with
  | a :: b :: r, _ =>
    have e : (ByteArray.extract ⟨⟨a :: b :: r⟩⟩ 0 2).toList = [a, b] := by
      rw [ByteArray.toList_eq, ByteArray.data_extract]
      simp
    rw [e, Bool.eq_iff_iff]
    simp [marked, byt, ← UInt8.toNat_inj]
set_option maxHeartbeats 400000 in
theorem prefix_any (s : ByteArray) (w : World) (h : 2 ≤ s.size) (hs : s.size ≤ maxLen) :
    Calls Tryd.prog 65 #[.string s, .string { data := #[104, 115] }] w fun e w' => e = .returned (.bool (marked s)) ∧ w' = w := by
  unfold maxLen at hs
  have hi : (2 : Int) ≤ (s.size : Int) := by omega
  have h2 : ByteArray.size { data := #[104, 115] } = 2 := rfl
  go_enter Tryd.func65, Tryd.ntmps65
  go_wp2
  go_ret
  rw [← ext2 s h]
  exact ⟨rfl, rfl⟩
end Go.Proofs.YtabecbjfamphbaaDoor
