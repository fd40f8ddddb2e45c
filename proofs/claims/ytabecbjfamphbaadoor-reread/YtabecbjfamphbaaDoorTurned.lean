/-
  The law's turned: a text with one byte another.
-/
import Derived.Test.YtabecbjfamphbaaDoorPick
import Derived.Test.YtabecbjfamphbaaDoorRefNum
import Derived.Laws.IdiomStrings
namespace Go.Proofs.YtabecbjfamphbaaDoor
open Go.RowKit Go.Stop Go.Extern

theorem Crc.xor_zero_of {a b : Nat} (h : a ^^^ b = a) : b = 0 := by
  have := congrArg (a ^^^ ·) h
  simpa [← Nat.xor_assoc] using this
theorem frozen_set2 (w : World) (a p : Addr) (v : Value) : (w.setCell a v).frozen? p = w.frozen? p := by
  go_simp
/-- The bytes of a text in a block of their own. -/
structure Bys (w : World) (z : Nat) (l : List UInt8) : Prop where
  c : ∀ j, j < l.length → w.cell? ⟨z, j, none⟩ = some (.int .u8 ((l.getD j 0).toNat : Int))
  f : ∀ j, j < l.length → w.frozen? ⟨z, j, none⟩ = false
theorem bys_of (w : World) (s : ByteArray) (cap : Nat) (t : TypeId) : Bys (w.alloc (.cells (bytesRow s cap) t ((bytesRow s cap).size, (bytesRow s cap).size + 1))) w.heap.size s.data.toList := by
  have hsz : s.size ≤ (bytesRow s cap).size := by unfold bytesRow; simp
  refine ⟨fun j hj => ?_, fun j hj => ?_⟩
  · have hj' : j < s.data.size := by simpa using hj
    rw [World.cell?_alloc_mark, bytesRow_at s cap j hj']
    rw [List.getD_eq_getElem?_getD, List.getElem?_eq_getElem (by simpa using hj')]
    simp
  · have hj' : j < s.size := by simpa using hj
    rw [World.frozen?_alloc_mark]
    simp; omega
theorem Bys.set {w : World} {z j : Nat} {l : List UInt8} (h : Bys w z l) (hj : j < l.length) (x : UInt8) : Bys (w.setCell ⟨z, j, none⟩ (.int .u8 (x.toNat : Int))) z (l.set j x) := by
  have hc := h.c j hj
  refine ⟨fun q hq => ?_, fun q hq => ?_⟩
  · rw [List.length_set] at hq
    by_cases e : q = j
    · subst e
      rw [List.getD_eq_getElem?_getD, List.getElem?_set_self hj]
      go_simp
    · have hq' := h.c q hq
      rw [List.getD_eq_getElem?_getD, List.getElem?_set_ne (by omega), ← List.getD_eq_getElem?_getD]
      have e' : j ≠ q := by omega
      go_simp
  · rw [List.length_set] at hq
    exact (frozen_set2 _ _ _ _).trans (h.f q hq)
theorem u8_turn (b : UInt8) (y : Nat) (hy : y < 255) : bits .xor .u8 (b.toNat : Int) (IntKind.u8.wrap (IntKind.i64.wrap (1 + (y : Int)))) = ((b ^^^ UInt8.ofNat (1 + y)).toNat : Int) := by
  have hb := b.toNat_lt
  have h1 : IntKind.u8.wrap (IntKind.i64.wrap (1 + (y : Int))) = ((1 + y : Nat) : Int) := by
    simp only [IntKind.wrap, IntKind.bits, IntKind.signed]
    simp
    omega
  rw [h1, u8_xor_nat b.toNat (1 + y) hb (by omega), UInt8.toNat_xor, UInt8.toNat_ofNat']
  congr 2
  omega
theorem u8_other (b : UInt8) (y : Nat) (hy : y < 255) : b ^^^ UInt8.ofNat (1 + y) ≠ b := by
  intro h
  have h2 := congrArg UInt8.toNat h
  rw [UInt8.toNat_xor] at h2
  have h3 : (UInt8.ofNat (1 + y)).toNat = 0 := Crc.xor_zero_of h2
  rw [UInt8.toNat_ofNat'] at h3
  omega
set_option maxRecDepth 100000 in
set_option maxHeartbeats 2000000 in
theorem turned_any (s : ByteArray) (i v : Int) (w : World) (hs : 0 < s.size) (hs2 : s.size ≤ 1000) (hi : I64 i) (hv : I64 v) :
    Calls Tryd.prog 15 #[.string s, .int .i64 i, .int .i64 v] w
      fun e w' => (∃ j x, j < s.size ∧ x ≠ s.data.toList.getD j 0 ∧ e = .returned (.string (txt (s.data.toList.set j x)))) ∧ Below w.heap.size w w' := by
  have hcv := run_bytes_of_string (P := Tryd.prog) w 9 70 5 s Tryd.underlying9 Tryd.underlying70 Tryd.underlying5
  have HI : Hid (∀ w, Calls Tryd.prog 30 #[.int .i64 i, .int .i64 (s.size : Int)] w fun e w' => e = .returned (.int .i64 (pk i s.size)) ∧ w' = w) := fun w => pick_any i s.size w hi (by omega) (by omega)
  have HV : Hid (∀ w, Calls Tryd.prog 30 #[.int .i64 v, .int .i64 255] w fun e w' => e = .returned (.int .i64 (pk v 255)) ∧ w' = w) := fun w => pick_any v 255 w hv (by omega) (by omega)
  have hb1 := pk_bd i s.size (by omega)
  have hb2 := pk_bd v 255 (by omega)
  obtain ⟨J, hJ⟩ : ∃ J : Nat, pk i s.size = J := ⟨(pk i s.size).toNat, by omega⟩
  obtain ⟨y, hy⟩ : ∃ y : Nat, pk v 255 = y := ⟨(pk v 255).toNat, by omega⟩
  rw [hJ] at HI hb1
  rw [hy] at HV hb2
  clear hi hv hJ hy
  go_enter Tryd.func15, Tryd.ntmps15
  go_wp2_with fail
  have hbys := bys_of w s (grownCap w s.size 0 5) 5
  have hbel : Below w.heap.size w (w.alloc (.cells (bytesRow s (grownCap w s.size 0 5)) 5 ((bytesRow s (grownCap w s.size 0 5)).size, (bytesRow s (grownCap w s.size 0 5)).size + 1))).drew := (below1 _ _).drew
  have hby2 : Bys (w.alloc (.cells (bytesRow s (grownCap w s.size 0 5)) 5 ((bytesRow s (grownCap w s.size 0 5)).size, (bytesRow s (grownCap w s.size 0 5)).size + 1))).drew w.heap.size s.data.toList := ⟨hbys.c, hbys.f⟩
  generalize (w.alloc (.cells (bytesRow s (grownCap w s.size 0 5)) 5 ((bytesRow s (grownCap w s.size 0 5)).size, (bytesRow s (grownCap w s.size 0 5)).size + 1))).drew = X at *
  generalize grownCap w s.size 0 5 = cap at *
  clear hcv hbys
  refine (HI.out _).mono ?_
  rintro e w' ⟨rfl, rfl⟩
  have hJs : J < s.data.toList.length := by simp; omega
  have hcJ := hby2.c J hJs
  have hfJ := hby2.f J hJs
  have hJl : (J : Int) < (s.size : Int) := by omega
  go_wp2_with fail
  go_region_with (go_at_call 30; refine (HV.out _).mono ?_; rintro e w' ⟨rfl, rfl⟩)
  all_goals
    obtain ⟨x, hx⟩ : ∃ x : UInt8, x = s.data.toList.getD J 0 ^^^ UInt8.ofNat (1 + y) := ⟨_, rfl⟩
    have hxv : bits .xor .u8 ((s.data[J]?.getD 0).toNat : Int) (IntKind.u8.wrap (IntKind.i64.wrap (1 + (y : Int)))) = (x.toNat : Int) := by
      have e : s.data[J]?.getD 0 = s.data.toList.getD J 0 := by rw [List.getD_eq_getElem?_getD]; simp
      rw [e, hx]
      exact u8_turn _ y (by omega)
    have hxne : x ≠ s.data.toList.getD J 0 := by rw [hx]; exact u8_other _ y (by omega)
    rw [hxv]
    clear hx
    have hbx := hby2.set hJs x
    have hby3 : Bys (w'.setCell ⟨w.heap.size, J, none⟩ (.int .u8 (x.toNat : Int))).drew w.heap.size (s.data.toList.set J x) := ⟨hbx.c, hbx.f⟩
    have hbel3 : Below w.heap.size w (w'.setCell ⟨w.heap.size, J, none⟩ (.int .u8 (x.toNat : Int))).drew := (hbel.setCell (Nat.le_refl _) _).drew
    generalize (w'.setCell ⟨w.heap.size, J, none⟩ (.int .u8 (x.toNat : Int))).drew = X at *
    have hback := run_convert_bytes_back (P := Tryd.prog) X 70 9 5 ⟨w.heap.size, 0, none⟩ cap (s.data.toList.set J x) Tryd.underlying70 Tryd.underlying5 Tryd.underlying9 (fun j hj => by
      have := hby3.c j hj
      rw [Addr.add_lit, Nat.zero_add, this, List.getD_eq_getElem?_getD, List.getElem?_eq_getElem hj]
      rfl)
    rw [show (s.data.toList.set J x).length = s.size by simp] at hback
    generalize hL : s.data.toList.set J x = l' at *
    go_wp2
    go_ret
    exact ⟨⟨J, x, by omega, hxne, by rw [hL]; rfl⟩, hbel3⟩
end Go.Proofs.YtabecbjfamphbaaDoor
