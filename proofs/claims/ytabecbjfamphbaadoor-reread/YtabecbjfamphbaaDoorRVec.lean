/-
  readVector.
-/
import Derived.Test.YtabecbjfamphbaaDoorSeal
namespace Go.Proofs.YtabecbjfamphbaaDoor
open Go.RowKit Go.Stop Go.Extern

/-- The vector that lies in a text from a place on. -/
def vecOf (s : ByteArray) (p n : Nat) : List Int := (List.range n).map fun q => (val s (p + 2 * q) 2 : Int)
theorem vecOf_length (s : ByteArray) (p n : Nat) : (vecOf s p n).length = n := by simp [vecOf]
theorem vecOf_succ (s : ByteArray) (p n : Nat) : vecOf s p (n + 1) = vecOf s p n ++ [(val s (p + 2 * n) 2 : Int)] := by simp [vecOf, List.range_succ]
theorem vecOf_get (s : ByteArray) (p n i : Nat) (h : i < n) : (vecOf s p n).getD i 0 = (val s (p + 2 * i) 2 : Int) := by
  simp [vecOf, List.getD_eq_getElem?_getD, h]
theorem row_set {s : ByteArray} {p n k : Nat} (h : k < n) : (vecOf s p k ++ List.replicate (n - k) 0).set k (val s (p + 2 * k) 2 : Int) = vecOf s p (k + 1) ++ List.replicate (n - (k + 1)) 0 := by
  obtain ⟨d, rfl⟩ : ∃ d, n = k + 1 + d := ⟨n - k - 1, by omega⟩
  rw [show k + 1 + d - k = d + 1 by omega, show k + 1 + d - (k + 1) = d by omega, List.replicate_succ, List.set_append_right _ _ (by simp [vecOf_length]), vecOf_length, Nat.sub_self, List.set_cons_zero, vecOf_succ, List.append_assoc]
  rfl

set_option maxRecDepth 100000 in
set_option maxHeartbeats 2000000 in
theorem readVector_any (n : Nat) (W B L : Int) (s : ByteArray) (p : Nat) (p' : Int) (hp' : p' = (p : Int)) (w : World) (h1 : 2 ≤ n) (h2 : n ≤ 8) (hs : s.size ≤ maxLen) (hp : p + 2 * n ≤ s.size) :
    Calls Tryd.prog 78 #[.agg #[.int .i64 (n : Int), .int .i64 W, .int .i64 B, .int .i64 L], .string s, .int .i64 p'] w fun e w' => e = .returned (.slice (some ⟨w.heap.size + 1, 0, none⟩) n n) ∧ RowI w' (w.heap.size + 1) (vecOf s p n) ∧ Below w.heap.size w w' := by
  subst hp'
  have HS : Hid (s.size ≤ maxLen) := hs
  unfold maxLen at hs
  obtain ⟨i0, hi, hz0, hz1, hz2⟩ := info_parts Tryd.infoInt
  go_enter Tryd.func78, Tryd.ntmps78
  go_wp2_with (at_make; refine wpList_make_full _ rfl (.tmp 10) (.tmp 10) 24 rfl (w.heap.size + 1) 3 i0 (.int .i64 0) 1 Tryd.underlying24 hi hz0 hz1 .i64 .i64 _ _ n rfl rfl ?m1 ?m2 ?m3 ?m4 ?m5 ?_)
  case m1 => rfl
  case m2 => rfl
  case m3 => rw [hz2]; omega
  case m4 => unfold maxLen; omega
  case m5 => simp
  intro w1 hown1 hgrow1
  rw [made_ints] at hown1
  have hr1 := row_of_owns hown1
  have HB1 : Hid (Below w.heap.size w w1) := (below1 _ _).trans (((Below.refl _ _).grown hgrow1 (Nat.le_refl _) (fun k hk => by cases hk)).mono (by simp))
  have hr2 : RowI w1 (w.heap.size + 1) (List.replicate n 0) := by simpa using hr1
  have HR1 : Hid (RowI w1 (w.heap.size + 1) (List.replicate n 0)) := hr2
  clear hown1 hgrow1 hr1 hr2
  go_wp2
  go_loopw [14] (fun c wr => ∃ k : Nat, k ≤ n ∧ c = .int .i64 k ∧ RowI wr (w.heap.size + 1) (vecOf s p k ++ List.replicate (n - k) 0) ∧ Below w.heap.size w wr) (fun c _ => n - (intOf c).toNat)
  case atStart => exact ⟨0, Nat.zero_le _, rfl, by simpa [vecOf] using HR1.out, HB1.out⟩
  case round =>
    obtain ⟨k, hk, rfl, hr, hb⟩ := hrel
    have HR : Hid (RowI wr (w.heap.size + 1) (vecOf s p k ++ List.replicate (n - k) 0)) := hr
    have HB : Hid (Below w.heap.size w wr) := hb
    clear hr hb
    by_cases hlt : k < n
    · have hc := HR.out.cell (j := k) (by simp [vecOf_length]; omega)
      have hf := HR.out.free k
      have HN : Hid (RowI (wr.setCell ⟨w.heap.size + 1, k, none⟩ (.int .i64 (val s (p + 2 * k) 2))) (w.heap.size + 1) (vecOf s p (k + 1) ++ List.replicate (n - (k + 1)) 0)) := by have := HR.out.set k (val s (p + 2 * k) 2 : Int); rw [row_set hlt] at this; exact this
      generalize hgz : (vecOf s p k ++ List.replicate (n - k) 0).getD k 0 = z at hc
      clear hgz
      have HX : Hid (∀ w, Calls Tryd.prog 66 #[.string s, .int .i64 ((p : Int) + 2 * (k : Int)), .int .i64 2] w fun e w' => e = .returned (.int .i64 (val s (p + 2 * k) 2)) ∧ w' = w) := fun w => readNumber_int s ((p : Int) + 2 * (k : Int)) 2 (p + 2 * k) 2 (by omega) rfl w HS.out (by omega) (by omega)
      generalize val s (p + 2 * k) 2 = y at *
      go_wp2_with (go_at_call 66; refine (HX.out _).mono ?_; rintro e w' ⟨rfl, rfl⟩)
      go_roundw
      case rel => exact ⟨k + 1, by omega, by go_num, HN.out, HB.out.setCell (by show w.heap.size ≤ w.heap.size + 1; omega) _⟩
      case measure => simp [intOf]; omega
    · have hr := HR.out
      have hkn : k = n := by omega
      rw [hkn, Nat.sub_self, List.replicate_zero, List.append_nil] at hr
      have HRn : Hid (RowI wr (w.heap.size + 1) (vecOf s p n)) := hr
      clear hr hkn
      go_wp2
      go_ret
      exact ⟨rfl, HRn.out, HB.out⟩
end Go.Proofs.YtabecbjfamphbaaDoor
