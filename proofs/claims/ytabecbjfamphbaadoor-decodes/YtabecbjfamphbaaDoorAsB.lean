/-
  reflectlite's loads and stores, as errors.As makes them.
-/
import Derived.Test.YtabecbjfamphbaaDoorAsA
namespace Go.Proofs.YtabecbjfamphbaaDoor
open Go.RowKit Go.Stop Go.Extern

theorem Tryd.partsPtr (b : Addr) (w : World) : (Extern.ReflectliteValue.parts (.agg #[.pointer (some ⟨9, 93, none⟩), .pointer (some b), .int .u64 150])).run Tryd.prog w = .ok (some (93, b, 150)) w := by kernel_rfl
theorem Tryd.partsAt (b : Addr) (w : World) : (Extern.ReflectliteValue.parts (.agg #[.pointer (some ⟨9, 91, none⟩), .pointer (some b), .int .u64 153])).run Tryd.prog w = .ok (some (91, b, 153)) w := by kernel_rfl
theorem Tryd.partsAtSet (b : Addr) (w : World) : (Extern.ReflectliteValue.parts (.agg #[.pointer (some ⟨9, 91, none⟩), .pointer (some b), .int .u64 409])).run Tryd.prog w = .ok (some (91, b, 409)) w := by kernel_rfl
theorem Tryd.elemQ (w : World) : (Extern.Rtype.elem? 93).run Tryd.prog w = .ok (some 91) w := by kernel_rfl
theorem Tryd.mkAt (q : Addr) (w : World) : (Extern.ReflectliteValue.mk 91 q Extern.ReflectliteValue.flagAddr).run Tryd.prog w = .ok (.agg #[.pointer (some ⟨9, 91, none⟩), .pointer (some q), .int .u64 409]) w := by kernel_rfl
theorem Tryd.directAt (w : World) : (Extern.Rtype.directlyAssignable 91 91).run Tryd.prog w = .ok true w := by kernel_rfl

theorem load_ptr (b q : Addr) (w : World) (h : w.cell? b = some (.pointer (some q))) : (loadVar 93 b).run Tryd.prog w = .ok (.pointer (some q)) w := by
  go_simp
theorem load_at (s : Nat) (p : Int) (e : Value) (w : World) (h0 : w.cell? ⟨s, 0, none⟩ = some (.int .i64 p)) (h1 : w.cell? ⟨s, 1, none⟩ = some e) : (loadVar 91 ⟨s, 0, none⟩).run Tryd.prog w = .ok (.agg #[.int .i64 p, e]) w := by
  go_simp
theorem store_at (g : Nat) (p : Int) (t : TypeId) (u x y : Value) (w : World) (g0 : w.cell? ⟨g, 0, none⟩ = some x) (g1 : w.cell? ⟨g, 1, none⟩ = some y) (f0 : w.frozen? ⟨g, 0, none⟩ = false) (f1 : w.frozen? ⟨g, 1, none⟩ = false) :
    (storeVar 91 ⟨g, 0, none⟩ (.agg #[.int .i64 p, .iface t u])).run Tryd.prog w = .ok () ((w.setCell ⟨g, 0, none⟩ (.int .i64 p)).setCell ⟨g, 1, none⟩ (.iface t u)) := by
  go_simp
theorem method_eq (z : Sem Value) (f : TypeId → Addr → Nat → Nat → Sem Value) (v : Value) : Extern.ReflectliteValue.method z f #[v] = (Extern.ReflectliteValue.parts v >>= fun r => match r with | none => z | some (t, a, fl) => f t a fl (fl % 32)) := rfl
theorem isNil_body (t : TypeId) (b : Addr) : Extern.ReflectliteValue.isNil t b 150 22 = (loadVar t b >>= fun x => match x with | .chan none | .nilFunc | .nilIface | .map none | .pointer none | .slice none _ _ => (pure (Value.bool true) : Sem Value) | _ => pure (.bool false)) := rfl
theorem elem_body (t : TypeId) (b : Addr) : Extern.ReflectliteValue.elem t b 150 22 = (loadVar t b >>= fun x => Extern.Rtype.elem? t >>= fun r => match (22 : Nat), x, r with | 20, i, _ => Extern.ReflectliteValue.unpack i | 22, .pointer none, _ => pure Extern.ReflectliteValue.zeroV | 22, .pointer (some p), some e => Extern.ReflectliteValue.mk e p Extern.ReflectliteValue.flagAddr | _, _, _ => Extern.ReflectliteValue.valueError "reflectlite.Value.Elem" 22) := rfl
theorem isNil_run (b q : Addr) (w : World) (h : w.cell? b = some (.pointer (some q))) : (callFunc 71 #[.agg #[.pointer (some ⟨9, 93, none⟩), .pointer (some b), .int .u64 150]]).run Tryd.prog w = .ok (Next.value (.bool false)) w := by
  rw [@run_callFunc_extern Tryd.prog 71 _ (Extern.ReflectliteValue.method (Extern.ReflectliteValue.valueError "reflectlite.Value.IsNil" 0) Extern.ReflectliteValue.isNil) Tryd.func71 (by kernel_rfl) (by kernel_rfl) (by kernel_rfl) (by kernel_rfl)]
  rw [method_eq, Sem.run_bind, Tryd.partsPtr b w]
  simp only [Result.andThen]
  rw [show (150 % 32 : Nat) = 22 from rfl, isNil_body, Sem.run_bind, load_ptr b q w h]
  rfl
theorem elem_run (b q : Addr) (w : World) (h : w.cell? b = some (.pointer (some q))) : (callFunc 81 #[.agg #[.pointer (some ⟨9, 93, none⟩), .pointer (some b), .int .u64 150]]).run Tryd.prog w = .ok (Next.value (.agg #[.pointer (some ⟨9, 91, none⟩), .pointer (some q), .int .u64 409])) w := by
  rw [@run_callFunc_extern Tryd.prog 81 _ (Extern.ReflectliteValue.method (Extern.ReflectliteValue.valueError "reflectlite.Value.Elem" 0) Extern.ReflectliteValue.elem) Tryd.func81 (by kernel_rfl) (by kernel_rfl) (by kernel_rfl) (by kernel_rfl)]
  rw [method_eq, Sem.run_bind, Tryd.partsPtr b w]
  simp only [Result.andThen]
  rw [show (150 % 32 : Nat) = 22 from rfl, elem_body, Sem.run_bind, load_ptr b q w h]
  simp only [Result.andThen]
  rw [Sem.run_bind, Tryd.elemQ w]
  simp only [Result.andThen]
  rw [Tryd.mkAt q w]
theorem set_parts (v x : Value) (dst src : TypeId) (a b : Addr) (n : Nat) (w : World) (hv : ∀ w, (Extern.ReflectliteValue.parts v).run Tryd.prog w = .ok (some (dst, a, 409)) w) (hx : ∀ w, (Extern.ReflectliteValue.parts x).run Tryd.prog w = .ok (some (src, b, n)) w) :
    ∃ R : Value → Sem Value, (Extern.ReflectliteValue.set #[v, x]).run Tryd.prog w = (loadVar src b >>= fun val => Extern.Rtype.directlyAssignable dst src >>= fun d => if d = true then (storeVar dst a val >>= fun _ => pure (.tuple #[])) else R val).run Tryd.prog w := by
  have e : ∃ k : Option (TypeId × Addr × Nat) → Option (TypeId × Addr × Nat) → Sem Value, Extern.ReflectliteValue.set #[v, x] = (Extern.ReflectliteValue.parts v >>= fun r => Extern.ReflectliteValue.parts x >>= fun q => k r q) ∧
      ∃ R : Value → Sem Value, k (some (dst, a, 409)) (some (src, b, n)) = (loadVar src b >>= fun val => Extern.Rtype.directlyAssignable dst src >>= fun d => if d = true then (storeVar dst a val >>= fun _ => pure (.tuple #[])) else R val) := ⟨_, rfl, _, rfl⟩
  obtain ⟨k, h1, R, h2⟩ := e
  refine ⟨R, ?_⟩
  rw [h1, Sem.run_bind, hv]
  simp only [Result.andThen]
  rw [Sem.run_bind, hx]
  simp only [Result.andThen]
  rw [h2]
theorem set_run (g s : Nat) (p : Int) (t : TypeId) (u x y : Value) (w : World) (h0 : w.cell? ⟨s, 0, none⟩ = some (.int .i64 p)) (h1 : w.cell? ⟨s, 1, none⟩ = some (.iface t u)) (g0 : w.cell? ⟨g, 0, none⟩ = some x) (g1 : w.cell? ⟨g, 1, none⟩ = some y) (f0 : w.frozen? ⟨g, 0, none⟩ = false) (f1 : w.frozen? ⟨g, 1, none⟩ = false) :
    (callFunc 82 #[.agg #[.pointer (some ⟨9, 91, none⟩), .pointer (some ⟨g, 0, none⟩), .int .u64 409], .agg #[.pointer (some ⟨9, 91, none⟩), .pointer (some ⟨s, 0, none⟩), .int .u64 153]]).run Tryd.prog w = .ok (Next.value (.tuple #[])) ((w.setCell ⟨g, 0, none⟩ (.int .i64 p)).setCell ⟨g, 1, none⟩ (.iface t u)) := by
  rw [@run_callFunc_extern Tryd.prog 82 _ Extern.ReflectliteValue.set Tryd.func82 (by kernel_rfl) (by kernel_rfl) (by kernel_rfl) (by kernel_rfl)]
  obtain ⟨R, hR⟩ := set_parts _ _ 91 91 ⟨g, 0, none⟩ ⟨s, 0, none⟩ 153 w (Tryd.partsAtSet ⟨g, 0, none⟩) (Tryd.partsAt ⟨s, 0, none⟩)
  rw [hR, Sem.run_bind, load_at s p _ w h0 h1]
  simp only [Result.andThen]
  rw [Sem.run_bind, Tryd.directAt w]
  simp only [Result.andThen, if_true]
  rw [Sem.run_bind, store_at g p t u x y w g0 g1 f0 f1]
  rfl
end Go.Proofs.YtabecbjfamphbaaDoor
