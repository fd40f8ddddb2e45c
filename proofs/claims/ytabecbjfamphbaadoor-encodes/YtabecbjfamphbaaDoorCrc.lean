/-
  Plain mathematics of the check sum: the state by bytes and bits, the program's way (a byte is xored in first) and the reference's way (bit by bit); both come to the same.
-/
namespace Go.Proofs.YtabecbjfamphbaaDoor
namespace Crc

def poly : Nat := 3988292384
def one (p : Nat) : Nat := if p % 2 = 1 then (p / 2) ^^^ poly else p / 2
def bits : Nat → Nat → Nat
  | 0, p => p
  | n + 1, p => one (bits n p)
/-- The program's way: the state behind a list of bytes. -/
def byte (p : Nat) (b : UInt8) : Nat := bits 8 (p ^^^ b.toNat)
def state (l : List UInt8) : Nat := l.foldl byte 4294967295
def sum (l : List UInt8) : Nat := 4294967295 - state l
/-- The reference's way: one bit of a byte. -/
def refOne (b : Nat) (k : Nat) (x : Nat) : Nat := if x % 2 ≠ (b / 2 ^ k) % 2 then (x / 2) ^^^ poly else x / 2
def refBits (b : Nat) : Nat → Nat → Nat
  | 0, x => x
  | n + 1, x => refOne b n (refBits b n x)

theorem xor_lt {a b : Nat} (ha : a < 4294967296) (hb : b < 4294967296) : a ^^^ b < 4294967296 :=
  Nat.xor_lt_two_pow (n := 32) ha hb
theorem poly_lt : poly < 4294967296 := by decide
theorem one_lt {p : Nat} (h : p < 4294967296) : one p < 4294967296 := by
  unfold one
  have := @poly_lt
  split
  · exact xor_lt (by omega) this
  · omega
theorem bits_lt {p : Nat} (n : Nat) (h : p < 4294967296) : bits n p < 4294967296 := by
  induction n with
  | zero => exact h
  | succ n ih => exact one_lt ih
theorem byte_lt {p : Nat} (b : UInt8) (h : p < 4294967296) : byte p b < 4294967296 := by
  have := b.toNat_lt
  exact bits_lt 8 (xor_lt h (by omega))
theorem fold_lt (l : List UInt8) : ∀ p, p < 4294967296 → l.foldl byte p < 4294967296 := by
  induction l with
  | nil => exact fun p h => h
  | cons b l ih => exact fun p h => ih _ (byte_lt b h)
theorem state_lt (l : List UInt8) : state l < 4294967296 := fold_lt l _ (by decide)
theorem state_snoc (l : List UInt8) (b : UInt8) : state (l ++ [b]) = byte (state l) b := by
  simp [state, List.foldl_append]
theorem sum_lt (l : List UInt8) : sum l < 4294967296 := by unfold sum; omega

theorem xor_half (a b : Nat) : (a ^^^ b) / 2 = a / 2 ^^^ b / 2 := by
  have h := Nat.shiftRight_xor_distrib (a := a) (b := b) (i := 1)
  simpa [Nat.shiftRight_eq_div_pow] using h
theorem xor_odd (a b : Nat) : (a ^^^ b) % 2 = 1 ↔ a % 2 ≠ b % 2 := by
  have h := Nat.xor_mod_two_pow (a := a) (b := b) (n := 1)
  simp only [Nat.pow_one] at h
  rw [h]
  have ha : a % 2 = 0 ∨ a % 2 = 1 := by omega
  have hb : b % 2 = 0 ∨ b % 2 = 1 := by omega
  rcases ha with ha | ha <;> rcases hb with hb | hb <;> rw [ha, hb] <;> decide

theorem ref_bits (b x : Nat) (k : Nat) : bits k (x ^^^ b) = refBits b k x ^^^ (b / 2 ^ k) := by
  induction k with
  | zero => simp [bits, refBits]
  | succ k ih =>
    show one (bits k (x ^^^ b)) = refOne b k (refBits b k x) ^^^ (b / 2 ^ (k + 1))
    rw [ih]
    have e : b / 2 ^ (k + 1) = b / 2 ^ k / 2 := by rw [Nat.pow_succ, Nat.div_div_eq_div_mul]
    rw [e]
    generalize refBits b k x = y
    unfold one refOne
    generalize b / 2 ^ k = c
    have ho := xor_odd y c
    have hh := xor_half y c
    by_cases h : y % 2 = c % 2
    · rw [if_neg (fun hx => (ho.1 hx) h), hh]
      rw [show (if y % 2 ≠ c % 2 then y / 2 ^^^ poly else y / 2) = y / 2 from if_neg (by simp [h])]
    · rw [if_pos (ho.2 h), hh]
      rw [show (if y % 2 ≠ c % 2 then y / 2 ^^^ poly else y / 2) = y / 2 ^^^ poly from if_pos h]
      rw [Nat.xor_assoc, Nat.xor_comm (c / 2) poly, ← Nat.xor_assoc]
theorem ref_byte (p : Nat) (b : UInt8) : refBits b.toNat 8 p = byte p b := by
  have h := ref_bits b.toNat p 8
  have hb := b.toNat_lt
  rw [show b.toNat / 2 ^ 8 = 0 from Nat.div_eq_of_lt (by simpa using hb), Nat.xor_zero] at h
  exact h.symm
theorem refBits_lt {p : Nat} (b : Nat) (n : Nat) (h : p < 4294967296) : refBits b n p < 4294967296 := by
  induction n with
  | zero => exact h
  | succ n ih =>
    show refOne b n _ < _
    unfold refOne
    have := @poly_lt
    split
    · exact xor_lt (by omega) this
    · omega
theorem take_snoc (s : ByteArray) (k : Nat) (h : k < s.size) : s.data.toList.take (k + 1) = s.data.toList.take k ++ [s[k]] := by
  rw [List.take_succ_eq_append_getElem (by simpa using h)]; rfl
theorem state_take (s : ByteArray) (k : Nat) (h : k < s.size) : state (s.data.toList.take (k + 1)) = byte (state (s.data.toList.take k)) s[k] := by
  rw [take_snoc s k h, state_snoc]

end Crc
end Go.Proofs.YtabecbjfamphbaaDoor
