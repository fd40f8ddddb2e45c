/-
  The reference's Number.
-/
import Derived.Test.YtabecbjfamphbaaDoorNum
import Derived.Laws.IdiomStrings
import Derived.Laws.BytesArg
namespace Go.Proofs.YtabecbjfamphbaaDoor
open Go.RowKit Go.Stop Go.Extern

/-- A text out of its bytes. -/
def txt (l : List UInt8) : ByteArray := ⟨l.toArray⟩

theorem txt_size (l : List UInt8) : (txt l).size = l.length := by show l.toArray.size = _; simp
theorem txt_data (l : List UInt8) : (txt l).data.toList = l := by simp [txt]
theorem txt_append (l m : List UInt8) : txt l ++ txt m = txt (l ++ m) := by
  apply ByteArray.ext
  show (txt l ++ txt m).data = _
  rw [ByteArray.data_append]
  simp [txt]
/-- 'string(b)' of a slice of the call's own. -/
theorem Own.string {w : World} {base : Nat} {v : Value} {l : List UInt8} (h : Own w base v l) : (convert 70 9 v).run Tryd.prog w = .ok (.string (txt l)) w := by
  have hl : (bcells l).length = l.length := by simp [bcells]
  rcases h.2 with ⟨rfl, hn⟩ | ⟨g, cap, cur, rfl, hg, hh, hc⟩
  · have : l = [] := List.eq_nil_of_length_eq_zero hn
    subst this
    exact run_convert_bytes_nil w 70 5 Tryd.underlying70 Tryd.underlying5 0 0 9 Tryd.underlying9
  · refine run_convert_bytes_back w 70 9 5 ⟨g, 0, none⟩ cap l Tryd.underlying70 Tryd.underlying5 Tryd.underlying9 fun j hj => ?_
    have := World.ownsRow.cells h (g := g) rfl j (.int .u8 (l[j].toNat : Int)) (by simp [bcells, hj])
    exact this
theorem conv_one (w : World) (y : Nat) : (convert 70 9 (.slice (some ⟨w.heap.size, 0, none⟩) 1 1)).run Tryd.prog (w.alloc (.cells #[.int .u8 ((y : Int) % 256)] 5)) = .ok (.string (txt [UInt8.ofNat y])) (w.alloc (.cells #[.int .u8 ((y : Int) % 256)] 5)) := by
  refine run_convert_bytes_back _ 70 9 5 ⟨w.heap.size, 0, none⟩ 1 [UInt8.ofNat y] Tryd.underlying70 Tryd.underlying5 Tryd.underlying9 fun j hj => ?_
  have : j = 0 := by simpa using hj
  subst this
  simp [Addr.add]

set_option maxRecDepth 100000 in
set_option maxHeartbeats 2000000 in
theorem refNumber_any (x n : Nat) (w : World) (hx : x < 4611686018427387904) (hn : n ≤ 8) :
    Calls Tryd.prog 56 #[.int .i64 x, .int .i64 n] w fun e w' => e = .returned (.string (txt (num x n))) ∧ Below w.heap.size w w' := by
  have hn0 : (n : Int) ≤ 8 := by omega
  go_enter Tryd.func56, Tryd.ntmps56
  go_wp2
  go_loopw [0, 5, 6] (fun v s c wr => ∃ i : Nat, i ≤ n ∧ c = .int .i64 i ∧ v = .int .i64 ((x / 256 ^ i : Nat) : Int) ∧ s = .string (txt (num x i)) ∧ Below w.heap.size w wr) (fun _ _ c _ => n - (intOf c).toNat)
  case atStart => exact ⟨0, Nat.zero_le _, rfl, by simp, rfl, Below.refl _ _⟩
  case round =>
    obtain ⟨i, hi, rfl, rfl, rfl, hbel⟩ := hrel
    have HB : Hid (Below w.heap.size w wr) := hbel
    have hsl : (txt (num x i)).size = i := by show (num x i).toArray.size = _; simp [num_length]
    have hyl : x / 256 ^ i ≤ x := Nat.div_le_self _ _
    have HY : Hid (x / 256 ^ (i + 1) = x / 256 ^ i / 256) := by show x / 256 ^ (i + 1) = _; rw [Nat.pow_succ, Nat.div_div_eq_div_mul]
    have HT : Hid (num x (i + 1) = UInt8.ofNat (x / 256 ^ i) :: num x i) := rfl
    generalize x / 256 ^ i = y at *
    generalize hg : txt (num x i) = t at *
    have HG : Hid (txt (num x i) = t) := hg
    clear hbel hg
    by_cases hin : i < n
    · have hcv := conv_one wr y
      have hs1 : (txt [UInt8.ofNat y]).size = 1 := rfl
      go_wp2
      go_roundw
      case rel => exact ⟨i + 1, by omega, by go_num, val_int (by rw [HY.out]; omega), by rw [HT.out, ← HG.out, txt_append]; rfl, HB.out.alloc HB.out.size _⟩
      case measure => simp [intOf]; omega
    · go_wp2
      go_ret
      have : i = n := by omega
      subst this
      rw [HG.out]
      exact ⟨rfl, HB.out⟩
end Go.Proofs.YtabecbjfamphbaaDoor
