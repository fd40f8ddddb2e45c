/-
  A list that is lent with spare room, and whether it is as it was: lentInts, wholeInts.
-/
import Derived.Test.YtabecbjfamphbaaDoorRefEnc
import Derived.Test.YtabecbjfamphbaaDoorRow
import Derived.Laws.CopyOwn
namespace Go.Proofs.YtabecbjfamphbaaDoor
open Go.RowKit Go.Stop Go.Extern

theorem Tryd.infoInt : (Tryd.prog.info? 3).map (fun i => (i.zero, i.size, i.bytes)) = some (some (.int .i64 0), 1, 8) := by kernel_rfl
theorem Tryd.sizeInt : (Tryd.prog.info? 3).map (·.size) = some 1 := by kernel_rfl

set_option maxHeartbeats 400000 in
theorem markInt_any (n : Int) (w : World) (h1 : 0 ≤ n) (h2 : n ≤ 1000000) :
    Calls Tryd.prog 39 #[.int .i64 n] w fun e w' => e = .returned (.int .i64 (-1000 - n)) ∧ w' = w := by
  go_enter Tryd.func39, Tryd.ntmps39
  go_wp2
  go_ret
  exact ⟨rfl, rfl⟩

theorem made_ints (n : Nat) : (madeCells #[Value.int .i64 0] n).toList = (List.replicate n (0 : Int)).map (Value.int .i64) := by
  apply List.ext_getElem
  · simp [madeCells]
  · intro i h1 h2
    simp [madeCells, Nat.mod_one]
theorem row_of_owns {w : World} {base g n : Nat} {zs : List Int} (h : w.ownsRow base 3 1 (.slice (some ⟨g, 0, none⟩) n n) n (zs.map (Value.int .i64))) : RowI w g zs := by
  rcases h.2 with ⟨h', _⟩ | ⟨g', cap', cur, h', _, hg, _, _, hcs, htake⟩
  · simp at h'
  · simp only [Value.slice.injEq, Option.some.injEq, Addr.mk.injEq, and_true, true_and] at h'
    obtain ⟨rfl, rfl⟩ := h'
    unfold RowI
    rw [← htake, List.take_of_length_le (by rw [Array.length_toList]; omega)]
    simpa using hg

/-- What lies in the lent list. -/
def lent (vs : List Int) (k : Nat) : List Int := vs ++ (List.replicate (k - vs.length) (-1007) ++ List.replicate (vs.length + 5 - k) 0)
theorem lent_set {vs : List Int} {k : Nat} (h1 : vs.length ≤ k) (h2 : k < vs.length + 5) : (lent vs k).set k (-1007) = lent vs (k + 1) := by
  obtain ⟨d, rfl⟩ : ∃ d, k = vs.length + d := ⟨k - vs.length, by omega⟩
  have e1 : vs.length + d - vs.length = d := by omega
  have e2 : vs.length + 5 - (vs.length + d) = (4 - d) + 1 := by omega
  have e3 : vs.length + d + 1 - vs.length = d + 1 := by omega
  have e4 : vs.length + 5 - (vs.length + d + 1) = 4 - d := by omega
  unfold lent
  rw [e1, e2, e3, e4, List.set_append_right _ _ (by omega), show vs.length + d - vs.length = d by omega, List.set_append_right _ _ (by simp)]
  rw [List.length_replicate, Nat.sub_self, List.replicate_succ, List.set_cons_zero, List.replicate_succ' (n := d), List.append_assoc]
  rfl
theorem lent_length {vs : List Int} {k : Nat} (h1 : vs.length ≤ k) (h2 : k ≤ vs.length + 5) : (lent vs k).length = vs.length + 5 := by
  unfold lent; simp; omega

theorem lent_start {vs : List Int} {len : Nat} (h : vs.length = len) : splice (List.replicate (len + 5) (Value.int .i64 0)) 0 (vs.map (Value.int .i64)) = (lent vs len).map (Value.int .i64) := by
  subst h
  unfold lent splice
  simp

set_option maxRecDepth 100000 in
set_option maxHeartbeats 4000000 in
theorem lentInts_some (a : Addr) (len cap : Nat) (vs : List Int) (w : World) (hi : Ints w (some a) len vs) (hl : len * 8 ≤ 140737488351232) :
    Calls Tryd.prog 21 #[.slice (some a) len cap] w fun e w' => e = .returned (.slice (some ⟨w.heap.size, 0, none⟩) len (len + 5)) ∧ RowI w' w.heap.size (lent vs (len + 5)) ∧ Below w.heap.size w w' := by
  have HI : Hid (Ints w (some a) len vs) := hi
  have HL : Hid (vs.length = len) := hi.len
  clear hi
  obtain ⟨i0, hi, hz0, hz1, hz2⟩ := info_parts Tryd.infoInt
  have hnil := fun w => Lib.run_eql_slice_nil (P := Tryd.prog) w 24 3 (some a) len cap 0 0 Tryd.underlying24
  go_enter Tryd.func21, Tryd.ntmps21
  go_wp2_with (at_make; refine wpList_make_full _ rfl (.tmp 11) (.tmp 11) 24 rfl w.heap.size 3 i0 (.int .i64 0) 1 Tryd.underlying24 hi hz0 hz1 .i64 .i64 _ _ (len + 5) rfl rfl ?m1 ?m2 ?m3 ?m4 ?m5 ?_)
  case m1 => omega
  case m2 => omega
  case m3 => rw [hz2]; omega
  case m4 => unfold maxLen; omega
  case m5 => exact Nat.le_refl _
  intro w1 hown1 hgrow1
  rw [made_ints] at hown1
  have HR1 : Hid (RowI w1 w.heap.size (List.replicate (len + 5) 0)) := row_of_owns hown1
  have HB1 : Hid (Below w.heap.size w w1) := (Below.refl _ _).grown hgrow1 (Nat.le_refl _) (fun k hk => by cases hk)
  clear hown1 hgrow1
  go_wp2_with (refine wpList_copy_splice rfl (.tmp 13) (.tmp 14) 24 24 rfl 3 Tryd.underlying24 Tryd.sizeInt _ _ _ _ _ _ rfl rfl w.heap.size 0 ((List.replicate (len + 5) (0 : Int)).map (Value.int .i64)) 3 HR1.out (vs.map (Value.int .i64)) ?n1 ?n2 ?n3 ?n4 w.heap.size w HB1.out (Nat.le_refl _) ?_)
  case n1 => rw [List.length_map, HL.out]; exact (Nat.min_eq_left (by omega)).symm
  case n2 =>
    intro _ j x hj
    have hjl : j < len := by rw [← HL.out]; exact (List.getElem?_eq_some_iff.1 hj).1
    obtain ⟨b, off, e, hbl, hc⟩ := HI.out.cell j hjl
    cases e
    have hadd : ∀ k, (⟨b, off, none⟩ : Addr).add k = ⟨b, off + k, none⟩ := fun k => by simp [Addr.add]
    rw [hadd, HB1.out.cell (p := ⟨b, off + j, none⟩) hbl, hc, List.getD_eq_getElem?_getD, hj]
    rfl
  case n3 => simp [HL.out]
  case n4 => intro v hv; simp at hv; obtain ⟨x, _, rfl⟩ := hv; rfl
  intro w2 hrow2 hb2
  have hrow := hrow2.out
  rw [lent_start HL.out] at hrow
  have HR2 : Hid (RowI w2 w.heap.size (lent vs len)) := hrow
  have HB2 : Hid (Below w.heap.size w w2) := hb2
  clear hrow2 hrow hb2 HR1 HB1
  go_wp2
  go_loopw [5] (fun c wr => ∃ k : Nat, len ≤ k ∧ k ≤ len + 5 ∧ c = .int .i64 k ∧ RowI wr w.heap.size (lent vs k) ∧ Below w.heap.size w wr) (fun c _ => len + 5 - (intOf c).toNat)
  case atStart => exact ⟨len, Nat.le_refl _, by omega, rfl, HR2.out, HB2.out⟩
  case round =>
    obtain ⟨k, hk1, hk2, rfl, hr, hb⟩ := hrel
    have HR : Hid (RowI wr w.heap.size (lent vs k)) := hr
    have HB : Hid (Below w.heap.size w wr) := hb
    clear hr hb
    by_cases hlt : k < len + 5
    · have hc : wr.cell? ⟨w.heap.size, k, none⟩ = some (.int .i64 ((lent vs k).getD k 0)) := HR.out.cell (by rw [lent_length (by rw [HL.out]; exact hk1) (by rw [HL.out]; exact hk2), HL.out]; exact hlt)
      have hf := HR.out.free k
      go_wp2_with (go_at_call 39; refine (markInt_any 7 _ (by omega) (by omega)).mono ?_; rintro e w' ⟨rfl, rfl⟩)
      go_roundw
      case rel => exact ⟨k + 1, by omega, by omega, by go_num, by have := HR.out.set k (-1007); rw [lent_set (by rw [HL.out]; exact hk1) (by rw [HL.out]; exact hlt)] at this; exact this, HB.out.setCell (Nat.le_refl _) _⟩
      case measure => simp [intOf]; omega
    · have hke : k = len + 5 := by omega
      have HK : Hid (k = len + 5) := hke
      clear hke
      go_wp2
      go_ret
      refine ⟨rfl, ?_, HB.out⟩
      rw [← HK.out]
      exact HR.out

set_option maxHeartbeats 400000 in
theorem lentInts_nil (w : World) :
    Calls Tryd.prog 21 #[.slice none 0 0] w fun e w' => e = .returned (.slice none 0 0) ∧ w' = w := by
  have hnil := fun w => Lib.run_eql_slice_nil (P := Tryd.prog) w 24 3 none 0 0 0 0 Tryd.underlying24
  go_enter Tryd.func21, Tryd.ntmps21
  go_wp2
  go_ret
  exact ⟨rfl, rfl⟩
set_option maxHeartbeats 400000 in
theorem wholeInts_nil (v : Value) (w : World) :
    Calls Tryd.prog 23 #[v, .slice none 0 0] w fun e w' => e = .returned (.bool true) ∧ w' = w := by
  have hnil := fun w => Lib.run_eql_slice_nil (P := Tryd.prog) w 24 3 none 0 0 0 0 Tryd.underlying24
  go_enter Tryd.func23, Tryd.ntmps23
  go_wp2
  go_ret
  exact ⟨rfl, rfl⟩

/-- The lent list while the caller writes into it. -/
def whole (vs : List Int) (k : Nat) : List Int := List.replicate k (-1009) ++ (vs ++ List.replicate 5 (-1007)).drop k
theorem whole_start (vs : List Int) : lent vs (vs.length + 5) = whole vs 0 := by simp [lent, whole]
theorem whole_length {vs : List Int} {k : Nat} (h : k ≤ vs.length + 5) : (whole vs k).length = vs.length + 5 := by simp [whole]; omega
theorem whole_get {vs : List Int} {k : Nat} (h : k < vs.length + 5) : (whole vs k).getD k 0 = if k < vs.length then vs.getD k 0 else -1007 := by
  have hk : k < (vs ++ List.replicate 5 (-1007 : Int)).length := by simp; omega
  unfold whole
  rw [List.getD_eq_getElem?_getD, List.getElem?_append_right (by simp), List.length_replicate, Nat.sub_self, List.getElem?_drop, Nat.add_zero]
  by_cases hl : k < vs.length
  · rw [if_pos hl, List.getElem?_append_left hl, List.getD_eq_getElem?_getD]
  · rw [if_neg hl, List.getElem?_append_right (by omega), List.getElem?_replicate, if_pos (by omega)]
    rfl
theorem whole_set {vs : List Int} {k : Nat} (h : k < vs.length + 5) : (whole vs k).set k (-1009) = whole vs (k + 1) := by
  have hk : k < (vs ++ List.replicate 5 (-1007 : Int)).length := by simp; omega
  unfold whole
  rw [List.set_append_right _ _ (by simp), List.length_replicate, Nat.sub_self, List.drop_eq_getElem_cons hk, List.set_cons_zero, List.replicate_succ' (n := k), List.append_assoc]
  rfl

set_option maxRecDepth 100000 in
set_option maxHeartbeats 4000000 in
theorem wholeInts_some (g : Nat) (a : Addr) (len cap : Nat) (vs : List Int) (w : World) (hr : RowI w g (lent vs (len + 5))) (hi : Ints w (some a) len vs) (hold : 0 < len → a.block < g) (hl : len * 8 ≤ 140737488351232) :
    Calls Tryd.prog 23 #[.slice (some ⟨g, 0, none⟩) len (len + 5), .slice (some a) len cap] w fun e w' => e = .returned (.bool true) ∧ Below g w w' := by
  have HI : Hid (Ints w (some a) len vs) := hi
  have HL : Hid (vs.length = len) := hi.len
  have HR0 : Hid (RowI w g (whole vs 0)) := by have := hr; rw [← hi.len, whole_start] at this; exact this
  clear hi hr
  have hnil := fun w => Lib.run_eql_slice_nil (P := Tryd.prog) w 24 3 (some a) len cap 0 0 Tryd.underlying24
  go_enter Tryd.func23, Tryd.ntmps23
  go_wp2
  go_loopw [7, 8] (fun q c wr => ∃ k : Nat, k ≤ len + 5 ∧ c = .int .i64 k ∧ q = .bool true ∧ RowI wr g (whole vs k) ∧ Below g w wr) (fun _ c _ => len + 5 - (intOf c).toNat)
  case atStart => exact ⟨0, Nat.zero_le _, rfl, rfl, HR0.out, Below.refl _ _⟩
  case round =>
    obtain ⟨k, hk, rfl, rfl, hr, hb⟩ := hrel
    have HR : Hid (RowI wr g (whole vs k)) := hr
    have HB : Hid (Below g w wr) := hb
    clear hr hb
    by_cases hlt : k < len + 5
    · have hlt' : k < vs.length + 5 := by rw [HL.out]; exact hlt
      have hc := HR.out.cell (j := k) (by rw [whole_length (by omega)]; exact hlt')
      rw [whole_get hlt'] at hc
      have hf := HR.out.free k
      have HN : Hid (RowI (wr.setCell ⟨g, k, none⟩ (.int .i64 (-1009))) g (whole vs (k + 1))) := by have := HR.out.set k (-1009); rw [whole_set hlt'] at this; exact this
      clear hlt'
      by_cases hkl : k < len
      · rw [if_pos (by rw [HL.out]; exact hkl)] at hc
        obtain ⟨b, off, e, hbl, hcl⟩ := HI.out.cell k hkl
        cases e
        have hcr : wr.cell? ⟨b, off + k, none⟩ = some (.int .i64 (vs.getD k 0)) := (HB.out.cell (p := ⟨b, off + k, none⟩) (hold (by omega))).trans hcl
        clear hcl
        generalize vs.getD k 0 = y at hc hcr
        go_wp2_with (first | (go_at_call_of 39 (Value.int IntKind.i64 7); refine (markInt_any 7 _ (by omega) (by omega)).mono ?_; rintro e w' ⟨rfl, rfl⟩) | (go_at_call 39; refine (markInt_any 9 _ (by omega) (by omega)).mono ?_; rintro e w' ⟨rfl, rfl⟩))
        go_roundw
        case rel => exact ⟨k + 1, by omega, by go_num, rfl, HN.out, HB.out.setCell (Nat.le_refl _) _⟩
        case measure => simp [intOf]; omega
      · rw [if_neg (by rw [HL.out]; exact hkl)] at hc
        go_wp2_with (first | (go_at_call_of 39 (Value.int IntKind.i64 7); refine (markInt_any 7 _ (by omega) (by omega)).mono ?_; rintro e w' ⟨rfl, rfl⟩) | (go_at_call 39; refine (markInt_any 9 _ (by omega) (by omega)).mono ?_; rintro e w' ⟨rfl, rfl⟩))
        go_roundw
        case rel => exact ⟨k + 1, by omega, by go_num, rfl, HN.out, HB.out.setCell (Nat.le_refl _) _⟩
        case measure => simp [intOf]; omega
    · go_wp2
      go_ret
      exact ⟨rfl, HB.out⟩
end Go.Proofs.YtabecbjfamphbaaDoor
