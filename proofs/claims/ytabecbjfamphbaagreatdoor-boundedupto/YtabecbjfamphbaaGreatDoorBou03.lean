/-
  Texts that the proofs of this seat share, joined: AsD.
-/
import Derived.Test.YtabecbjfamphbaaGreatDoorBou02
/- errors.As as it stands, and 'place', which asks an error for its place. -/
namespace Go.Proofs.YtabecbjfamphbaaGreatDoor
open Go.RowKit Go.Stop Go.Extern

/-- The variable errors.errorType. -/
def ErrT (w : World) : Prop := w.cell? ⟨8, 0, none⟩ = some (.iface 252 (.agg #[.pointer (some ⟨9, 98, none⟩)]))
theorem ErrT.below {w w' : World} (h : ErrT w) (hb : Below w.heap.size w w') : ErrT w' := by
  unfold ErrT at *
  exact (hb.cell (lt_of_cell h)).trans h

set_option maxRecDepth 1000000 in
set_option maxHeartbeats 3200000 in
theorem As_at (g : Nat) (p : Int) (t : TypeId) (u x y : Value) (w : World) (hT : ErrT w) (hgl : g < w.heap.size) (g0 : w.cell? ⟨g, 0, none⟩ = some x) (g1 : w.cell? ⟨g, 1, none⟩ = some y) (f0 : w.frozen? ⟨g, 0, none⟩ = false) (f1 : w.frozen? ⟨g, 1, none⟩ = false) :
    Calls Tryz.prog 186 #[.iface 247 (.agg #[.int .i64 p, .iface t u]), .iface 249 (.pointer (some ⟨g, 0, none⟩))] w
      fun e w' => e = .returned (.bool true) ∧ w'.cell? ⟨g, 0, none⟩ = some (.int .i64 p) ∧ Below g w w' := by
  have vP := Tryz.valueOfPtr
  have tV := Tryz.typeOfValue
  have mK := Tryz.methodKind
  have kP := Tryz.kindPtr
  have kA := Tryz.kindAt
  have mE := Tryz.methodElem
  have eP := Tryz.elemPtr
  have mI := Tryz.methodImplements
  have iA := Tryz.implementsAt
  have hB := below2 w (.cells #[.pointer (some ⟨g, 0, none⟩)] 249) (.cells #[.pointer (some ⟨9, 249, none⟩), .pointer (some ⟨w.heap.size, 0, none⟩), .int .u64 150] 279)
  have hT2 := (hT.below hB)
  unfold ErrT at hT2
  have hnil := isNil_run ⟨w.heap.size, 0, none⟩ ⟨g, 0, none⟩ ((w.alloc (.cells #[.pointer (some ⟨g, 0, none⟩)] 249)).alloc (.cells #[.pointer (some ⟨9, 249, none⟩), .pointer (some ⟨w.heap.size, 0, none⟩), .int .u64 150] 279)) (by simp)
  have HB : Hid _ := hB
  have HT : Hid (ErrT w) := hT
  clear hB hT
  go_enter Tryz.func186, Tryz.ntmps186
  go_wp2_with fail
  refine (as_at g w.heap.size p t u x y _ (by simp) (by simp; omega) (by simp; omega) ((HB.out.cell (p := ⟨g, 0, none⟩) hgl).trans g0) ((HB.out.cell (p := ⟨g, 1, none⟩) hgl).trans g1) ((HB.out.frozen (p := ⟨g, 0, none⟩) hgl).trans f0) ((HB.out.frozen (p := ⟨g, 1, none⟩) hgl).trans f1)).mono ?_
  rintro e w' ⟨rfl, hc, hb⟩
  have HC : Hid _ := hc
  have HB2 : Hid _ := hb
  clear hc hb
  go_wp2
  go_ret
  exact ⟨rfl, HC.out, (HB.out.mono (by omega)).trans HB2.out⟩

set_option maxRecDepth 1000000 in
set_option maxHeartbeats 3200000 in
theorem As_why (g : Nat) (a : Addr) (s : ByteArray) (w : World) (hT : ErrT w) :
    Calls Tryz.prog 186 #[.iface 208 (.agg #[.string s, .iface 298 (.pointer (some a))]), .iface 249 (.pointer (some ⟨g, 0, none⟩))] w
      fun e w' => e = .returned (.bool false) ∧ Below w.heap.size w w' := by
  have vP := Tryz.valueOfPtr
  have tV := Tryz.typeOfValue
  have mK := Tryz.methodKind
  have kP := Tryz.kindPtr
  have kA := Tryz.kindAt
  have mE := Tryz.methodElem
  have eP := Tryz.elemPtr
  have mI := Tryz.methodImplements
  have iA := Tryz.implementsAt
  have hB := below2 w (.cells #[.pointer (some ⟨g, 0, none⟩)] 249) (.cells #[.pointer (some ⟨9, 249, none⟩), .pointer (some ⟨w.heap.size, 0, none⟩), .int .u64 150] 279)
  have hT2 := (hT.below hB)
  unfold ErrT at hT2
  have hnil := isNil_run ⟨w.heap.size, 0, none⟩ ⟨g, 0, none⟩ ((w.alloc (.cells #[.pointer (some ⟨g, 0, none⟩)] 249)).alloc (.cells #[.pointer (some ⟨9, 249, none⟩), .pointer (some ⟨w.heap.size, 0, none⟩), .int .u64 150] 279)) (by simp)
  have HB : Hid _ := hB
  clear hB hT
  go_enter Tryz.func186, Tryz.ntmps186
  go_wp2_with fail
  refine (as_why g w.heap.size a s _).mono ?_
  rintro e w' ⟨rfl, hb⟩
  have HB2 : Hid _ := hb
  clear hb
  go_wp2
  go_ret
  exact ⟨rfl, bthen HB.out HB2.out⟩

set_option maxHeartbeats 800000 in
theorem place_nil (w : World) : Calls Tryz.prog 141 #[.nilIface] w fun e w' => e = .returned (.int .i64 0) ∧ Below w.heap.size w w' := by
  go_enter Tryz.func141, Tryz.ntmps141
  go_wp2_with (go_at_call 186; refine (As_nil _ _).mono ?_; rintro e w' ⟨rfl, rfl⟩)
  go_ret
  exact ⟨rfl, below1 _ _⟩
set_option maxHeartbeats 800000 in
theorem place_why (a : Addr) (s : ByteArray) (w : World) (hT : ErrT w) : Calls Tryz.prog 141 #[.iface 208 (.agg #[.string s, .iface 298 (.pointer (some a))])] w fun e w' => e = .returned (.int .i64 0) ∧ Below w.heap.size w w' := by
  have HT : Hid (ErrT w) := hT
  clear hT
  go_enter Tryz.func141, Tryz.ntmps141
  go_wp2_with fail
  refine (As_why _ a s _ (HT.out.below (below1 _ _))).mono ?_
  rintro e w' ⟨rfl, hb⟩
  have HB : Hid _ := hb
  clear hb
  go_wp2
  go_ret
  exact ⟨rfl, bthen (below1 _ _) HB.out⟩
set_option maxHeartbeats 800000 in
theorem place_at (p : Int) (t : TypeId) (u : Value) (w : World) (hT : ErrT w) : Calls Tryz.prog 141 #[.iface 247 (.agg #[.int .i64 p, .iface t u])] w fun e w' => e = .returned (.int .i64 p) ∧ Below w.heap.size w w' := by
  have HT : Hid (ErrT w) := hT
  clear hT
  go_enter Tryz.func141, Tryz.ntmps141
  go_wp2_with fail
  refine (As_at w.heap.size p t u (.int .i64 0) .nilIface _ (HT.out.below (below1 _ _)) (by simp) (by simp) (by simp) (by simp) (by simp)).mono ?_
  rintro e w' ⟨rfl, hc, hb⟩
  have HB : Hid _ := hb
  clear hb
  go_wp2
  go_ret
  exact ⟨rfl, (below1 _ _).trans HB.out⟩
end Go.Proofs.YtabecbjfamphbaaGreatDoor
