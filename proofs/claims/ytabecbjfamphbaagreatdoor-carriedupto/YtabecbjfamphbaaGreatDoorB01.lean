/-
  Texts that the proofs of this seat share, joined: Pv, Errs, Crc, SumA, Chk.
-/
import Derived.Test.YtabecbjfamphbaaGreatDoorProg
import GoSem.Claim
import GoSem.ClaimJoined
import GoSem.ClaimMapViews
import Derived.JoinedTies
import Derived.KernelRfl
import Derived.RowKit
import Derived.WalkKit
import Derived.WalkSpells
import Derived.WalkLawsBesides
import Derived.LaidEql
import Derived.Stop.Asserts
import Derived.RowKitTokens
import Derived.Outline
import Derived.Laws.BitsAllLaws
import Derived.Deep.RegionWith
/- Views as plain lists: what one number, a vector, a Low makes of them; the Low of an origin. -/
namespace Go.Proofs.YtabecbjfamphbaaGreatDoor

/-- A word that was heard. -/
structure Wd where
  org : Int
  seq : Int
  body : ByteArray
/-- The number for o in the view of q. -/
def vw (vs : List (List Int)) (q o : Nat) : Int := (vs.getD q []).getD o 0
/-- The greater of two. -/
def imax (y x : Int) : Int := if y < x then x else y
theorem imax_eq (y x : Int) : imax y x = max y x := by unfold imax; split <;> omega
/-- One number of one view another. -/
def vset (vs : List (List Int)) (q o : Nat) (x : Int) : List (List Int) := vs.set q ((vs.getD q []).set o x)
theorem getD_set {α : Type} (l : List α) (i j : Nat) (x d : α) : (l.set i x).getD j d = if i = j ∧ j < l.length then x else l.getD j d := by
  rw [List.getD_eq_getElem?_getD, List.getD_eq_getElem?_getD, List.getElem?_set]
  split
  · rename_i h
    subst h
    split
    · simp [*]
    · rename_i h
      rw [List.getElem?_eq_none (by omega), if_neg (by omega)]
  · rename_i h
    rw [if_neg (by omega)]
/-- The Low of an origin. -/
def lowTo (vs : List (List Int)) (L : Int) (o : Nat) : Nat → Int
  | 0 => L
  | k + 1 => if vw vs k o < lowTo vs L o k then vw vs k o else lowTo vs L o k
/-- What a vector tells of a node, taken in number by number. -/
def vlearn (vs : List (List Int)) (q : Nat) (v : List Int) : Nat → List (List Int)
  | 0 => vs
  | k + 1 => vset (vlearn vs q v k) q k (imax (vw (vlearn vs q v k) q k) (v.getD k 0))
/-- What a Low tells of all others. -/
def vlow (vs : List (List Int)) (p o : Nat) (x : Int) : Nat → List (List Int)
  | 0 => vs
  | k + 1 => if k = p then vlow vs p o x k else vset (vlow vs p o x k) k o (imax (vw (vlow vs p o x k) k o) x)

/-- n views of n numbers. -/
structure Shp (vs : List (List Int)) (n : Nat) : Prop where
  vlen : vs.length = n
  elen : ∀ q, q < n → (vs.getD q []).length = n
theorem Shp.vset {vs : List (List Int)} {n : Nat} (h : Shp vs n) (q o : Nat) (x : Int) : Shp (vset vs q o x) n := by
  refine ⟨by unfold Proofs.YtabecbjfamphbaaGreatDoor.vset; rw [List.length_set]; exact h.vlen, fun j hj => ?_⟩
  unfold Proofs.YtabecbjfamphbaaGreatDoor.vset
  rw [getD_set]
  split
  · rename_i e
    rw [List.length_set, e.1]; exact h.elen j hj
  · exact h.elen j hj
theorem vw_vset {vs : List (List Int)} {n : Nat} (h : Shp vs n) {q o : Nat} (hq : q < n) (ho : o < n) (x : Int) (q' o' : Nat) : vw (vset vs q o x) q' o' = if q' = q ∧ o' = o then x else vw vs q' o' := by
  unfold vw vset
  have h1 := h.vlen
  have h2 := h.elen q hq
  rw [getD_set]
  by_cases e : q = q'
  · subst e
    rw [if_pos ⟨rfl, by omega⟩, getD_set]
    by_cases e' : o = o'
    · subst e'
      rw [if_pos ⟨rfl, by omega⟩, if_pos ⟨rfl, rfl⟩]
    · rw [if_neg (fun c => e' c.1), if_neg (fun c => e' c.2.symm)]
  · rw [if_neg (fun c => e c.1), if_neg (fun c => e c.1.symm)]
theorem Shp.vlearn {vs : List (List Int)} {n : Nat} (h : Shp vs n) (q : Nat) (v : List Int) : ∀ k, Shp (vlearn vs q v k) n
  | 0 => h
  | k + 1 => (h.vlearn q v k).vset _ _ _
theorem vw_vlearn {vs : List (List Int)} {n : Nat} (h : Shp vs n) {q : Nat} (hq : q < n) (v : List Int) (k : Nat) (hk : k ≤ n) (q' o : Nat) : vw (vlearn vs q v k) q' o = if q' = q ∧ o < k then max (vw vs q' o) (v.getD o 0) else vw vs q' o := by
  induction k with
  | zero => rw [if_neg (by omega)]; rfl
  | succ k ih =>
    show vw (Proofs.YtabecbjfamphbaaGreatDoor.vset (vlearn vs q v k) q k (imax (vw (vlearn vs q v k) q k) (v.getD k 0))) q' o = _
    rw [vw_vset (h.vlearn q v k) hq (by omega), ih (by omega), imax_eq]
    by_cases e : q' = q
    · subst e
      by_cases e' : o = k
      · subst e'
        rw [if_pos ⟨rfl, rfl⟩, if_pos ⟨rfl, by omega⟩]
        have h3 := ih (by omega)
        rw [if_neg (by omega)] at h3
        rw [h3]
      · rw [if_neg (fun c => e' c.2)]
        by_cases h4 : o < k
        · rw [if_pos ⟨rfl, h4⟩, if_pos ⟨rfl, by omega⟩]
        · rw [if_neg (fun c => h4 c.2), if_neg (by omega)]
    · rw [if_neg (fun c => e c.1), if_neg (fun c => e c.1), if_neg (fun c => e c.1)]
theorem Shp.vlow {vs : List (List Int)} {n : Nat} (h : Shp vs n) (p o : Nat) (x : Int) : ∀ k, Shp (vlow vs p o x k) n
  | 0 => h
  | k + 1 => by
    unfold Proofs.YtabecbjfamphbaaGreatDoor.vlow
    split
    · exact h.vlow p o x k
    · exact (h.vlow p o x k).vset _ _ _
theorem vw_vlow {vs : List (List Int)} {n : Nat} (h : Shp vs n) {p o : Nat} (ho : o < n) (x : Int) (k : Nat) (hk : k ≤ n) (q o' : Nat) : vw (vlow vs p o x k) q o' = if q ≠ p ∧ q < k ∧ o' = o then max (vw vs q o') x else vw vs q o' := by
  induction k with
  | zero => rw [if_neg (by omega)]; rfl
  | succ k ih =>
    unfold Proofs.YtabecbjfamphbaaGreatDoor.vlow
    by_cases e : k = p
    · rw [if_pos e, ih (by omega)]
      subst e
      by_cases h1 : q ≠ k ∧ q < k ∧ o' = o
      · rw [if_pos h1, if_pos ⟨h1.1, by omega, h1.2.2⟩]
      · rw [if_neg h1, if_neg (fun c => h1 ⟨c.1, by omega, c.2.2⟩)]
    · rw [if_neg e, vw_vset (h.vlow p o x k) (by omega) ho, ih (by omega), imax_eq]
      by_cases e1 : q = k
      · subst e1
        by_cases e2 : o' = o
        · subst e2
          rw [if_pos ⟨rfl, rfl⟩, if_pos ⟨e, by omega, rfl⟩]
          have h3 := ih (by omega)
          rw [if_neg (by omega)] at h3
          rw [h3]
        · rw [if_neg (fun c => e2 c.2), if_neg (fun c => e2 c.2.2), if_neg (fun c => e2 c.2.2)]
      · rw [if_neg (fun c => e1 c.1)]
        by_cases h1 : q ≠ p ∧ q < k ∧ o' = o
        · rw [if_pos h1, if_pos ⟨h1.1, by omega, h1.2.2⟩]
        · rw [if_neg h1, if_neg (fun c => h1 ⟨c.1, by omega, c.2.2⟩)]
theorem lowTo_le_L (vs : List (List Int)) (L : Int) (o n : Nat) : lowTo vs L o n ≤ L := by
  induction n with
  | zero => exact Int.le_refl _
  | succ n ih =>
    unfold lowTo
    split <;> omega
theorem lowTo_le (vs : List (List Int)) (L : Int) (o n q : Nat) (hq : q < n) : lowTo vs L o n ≤ vw vs q o := by
  induction n with
  | zero => omega
  | succ n ih =>
    unfold lowTo
    by_cases e : q = n
    · subst e
      split <;> omega
    · have := ih (by omega)
      split <;> omega
theorem le_lowTo (vs : List (List Int)) (L x : Int) (o n : Nat) (hL : x ≤ L) (h : ∀ q, q < n → x ≤ vw vs q o) : x ≤ lowTo vs L o n := by
  induction n with
  | zero => exact hL
  | succ n ih =>
    have h1 := ih (fun q hq => h q (by omega))
    have h2 := h n (by omega)
    unfold lowTo
    split <;> omega
theorem lowTo_is (vs : List (List Int)) (L : Int) (o n : Nat) : lowTo vs L o n = L ∨ ∃ q, q < n ∧ lowTo vs L o n = vw vs q o := by
  induction n with
  | zero => exact Or.inl rfl
  | succ n ih =>
    unfold lowTo
    split
    · exact Or.inr ⟨n, by omega, rfl⟩
    · rcases ih with h | ⟨q, hq, h⟩
      · exact Or.inl h
      · exact Or.inr ⟨q, by omega, h⟩
theorem lowTo_mono (vs vs' : List (List Int)) (L : Int) (o n : Nat) (h : ∀ q, q < n → vw vs q o ≤ vw vs' q o) : lowTo vs L o n ≤ lowTo vs' L o n :=
  le_lowTo _ _ _ _ _ (lowTo_le_L _ _ _ _) (fun q hq => Int.le_trans (lowTo_le _ _ _ _ q hq) (h q hq))
theorem lowTo_congr (vs vs' : List (List Int)) (L : Int) (o n : Nat) (h : ∀ q, q < n → vw vs q o = vw vs' q o) : lowTo vs L o n = lowTo vs' L o n :=
  Int.le_antisymm (lowTo_mono _ _ _ _ _ (fun q hq => Int.le_of_eq (h q hq))) (lowTo_mono _ _ _ _ _ (fun q hq => Int.le_of_eq (h q hq).symm))
end Go.Proofs.YtabecbjfamphbaaGreatDoor

/- errors.Is over the program's own errors: nil; a Why around a sentinel; an At around a Why around a sentinel. -/
namespace Go.Proofs.YtabecbjfamphbaaGreatDoor
open Go.RowKit Go.Stop Go.Extern

theorem Tryz.isTypeOf (v : Value) (w : World) : (callFunc 145 #[.iface 298 v]).run Tryz.prog w = .ok (Next.value (.iface 252 (.agg #[.pointer (some ⟨9, 298, none⟩)]))) w := by
  rw [@run_callFunc_extern Tryz.prog 145 _ Extern.ReflectliteType.typeOf Tryz.func145 (by kernel_rfl) (by kernel_rfl) (by kernel_rfl) (by kernel_rfl)]
  kernel_rfl
theorem Tryz.isComparable (w : World) : (callFunc 262 #[.agg #[.pointer (some ⟨9, 298, none⟩)]]).run Tryz.prog w = .ok (Next.value (.bool true)) w := by
  rw [@run_callFunc_extern Tryz.prog 262 _ (Extern.ReflectliteType.method fun t => do Go.Extern.Rtype.noPackHeld "Comparable" t; pure (.bool (← typeInfo t).comparable)) Tryz.func262 (by kernel_rfl) (by kernel_rfl) (by kernel_rfl) (by kernel_rfl)]
  kernel_rfl
theorem Tryz.isMethodComparable (v : Value) (w : World) : (Go.method 428 252 v "Comparable").run Tryz.prog w = .ok (262, v) w := by kernel_rfl
theorem Tryz.methodUnwrapW (v : Value) (w : World) : (Go.method 428 208 v "Unwrap").run Tryz.prog w = .ok (257, v) w := by kernel_rfl
theorem Tryz.methodUnwrapA (v : Value) (w : World) : (Go.method 428 247 v "Unwrap").run Tryz.prog w = .ok (259, v) w := by kernel_rfl
theorem Tryz.isComp : (Tryz.prog.info? 298).map (·.comparable) = some true := by kernel_rfl
theorem Tryz.isSize : (Tryz.prog.info? 317).map (·.size) = some 1 := by kernel_rfl
theorem Tryz.noIsE (v : Value) (xT : TypeId) (w : World) : (Instr.typeAssert (.iface 298 v) xT 254 true).run Tryz.prog w = .ok (.tuple #[.nilIface, .bool false]) w := run_typeAssert_lacksB Tryz.underlying254 (by kernel_rfl) (by kernel_rfl) v xT w
theorem Tryz.noUnwrapE (v : Value) (xT : TypeId) (w : World) : (Instr.typeAssert (.iface 298 v) xT 257 true).run Tryz.prog w = .ok (.tuple #[.nilIface, .bool false]) w := run_typeAssert_lacksB Tryz.underlying257 (by kernel_rfl) (by kernel_rfl) v xT w
theorem Tryz.noUnwrapsE (v : Value) (xT : TypeId) (w : World) : (Instr.typeAssert (.iface 298 v) xT 259 true).run Tryz.prog w = .ok (.tuple #[.nilIface, .bool false]) w := run_typeAssert_lacksB Tryz.underlying259 (by kernel_rfl) (by kernel_rfl) v xT w
theorem Tryz.noIsW (v : Value) (xT : TypeId) (w : World) : (Instr.typeAssert (.iface 208 v) xT 254 true).run Tryz.prog w = .ok (.tuple #[.nilIface, .bool false]) w := run_typeAssert_lacksB Tryz.underlying254 (by kernel_rfl) (by kernel_rfl) v xT w
theorem Tryz.hasUnwrapW (v : Value) (xT : TypeId) (w : World) : (Instr.typeAssert (.iface 208 v) xT 257 true).run Tryz.prog w = .ok (.tuple #[.iface 208 v, .bool true]) w := run_typeAssert_hasB Tryz.underlying257 (by kernel_rfl) v xT w
theorem Tryz.noIsA (v : Value) (xT : TypeId) (w : World) : (Instr.typeAssert (.iface 247 v) xT 254 true).run Tryz.prog w = .ok (.tuple #[.nilIface, .bool false]) w := run_typeAssert_lacksB Tryz.underlying254 (by kernel_rfl) (by kernel_rfl) v xT w
theorem Tryz.hasUnwrapA (v : Value) (xT : TypeId) (w : World) : (Instr.typeAssert (.iface 247 v) xT 257 true).run Tryz.prog w = .ok (.tuple #[.iface 247 v, .bool true]) w := run_typeAssert_hasB Tryz.underlying257 (by kernel_rfl) v xT w

/-- The program's own error values. -/
def eSent (a : Addr) : Value := .iface 298 (.pointer (some a))
def eWhy (s : ByteArray) (a : Addr) : Value := .iface 208 (.agg #[.string s, .iface 298 (.pointer (some a))])
def eAt (p : Int) (s : ByteArray) (a : Addr) : Value := .iface 247 (.agg #[.int .i64 p, .iface 208 (.agg #[.string s, .iface 298 (.pointer (some a))])])

set_option maxHeartbeats 400000 in
theorem is_nil (b : Addr) (w : World) :
    Calls Tryz.prog 92 #[.nilIface, .iface 298 (.pointer (some b))] w fun e w' => e = .returned (.bool false) ∧ w' = w := by
  have hn := run_eql_iface_nil_left (P := Tryz.prog) w 298 (.pointer (some b)) Tryz.underlying98
  go_enter Tryz.func92, Tryz.ntmps92
  go_wp2
  go_ret
  exact ⟨rfl, rfl⟩

theorem heap_alloc_old {w : World} {k : Nat} {o x : Obj} (h : w.heap[k]? = some x) : (w.alloc o).heap[k]? = some x := by
  have hlt : k < w.heap.size := by
    rcases Nat.lt_or_ge k w.heap.size with h' | h'
    · exact h'
    · simp [Array.getElem?_eq_none h'] at h
  rw [Below.heap_alloc _ _ _ hlt]; exact h

set_option maxRecDepth 1000000 in
set_option maxHeartbeats 800000 in
theorem is_why_same (s : ByteArray) (b : Addr) (w : World) :
    Calls Tryz.prog 92 #[.iface 208 (.agg #[.string s, .iface 298 (.pointer (some b))]), .iface 298 (.pointer (some b))] w fun e w' => e = .returned (.bool true) ∧ Below w.heap.size w w' := by
  obtain ⟨i, hi, hcmp⟩ := Option.map_eq_some_iff.1 Tryz.isComp
  obtain ⟨j, hj, hjs⟩ := Option.map_eq_some_iff.1 Tryz.isSize
  have tT := Tryz.isTypeOf
  have cT := Tryz.isComparable
  have mC := Tryz.isMethodComparable
  have mW := Tryz.methodUnwrapW
  have nW := Tryz.noIsW
  have uW := Tryz.hasUnwrapW
  have hty := fun v => run_eql_iface_types (P := Tryz.prog) 208 298 v (.pointer (some b)) Tryz.underlying98 (by decide)
  have heq := fun w => run_eql_iface_ptr_same (P := Tryz.prog) w b Tryz.underlying98 Tryz.underlying298 hi hcmp hj
  clear hi hcmp hj hjs
  go_enter Tryz.func92, Tryz.ntmps92
  go_wp2
  refine wp_loop_rounds 2 ?_
  rw [rounds_succ]
  go_wp2
  rw [rounds_succ]
  go_wp2
  go_ret
  exact ⟨rfl, ((Below.refl _ _).alloc (Nat.le_refl _) _)⟩

set_option maxRecDepth 1000000 in
set_option maxHeartbeats 800000 in
theorem is_why_other (s : ByteArray) (a b : Addr) (w : World) (hne : a ≠ b) {ca cb : Array Value} {ta tb : TypeId} (ha : w.heap[a.block]? = some (.cells ca ta (0, 0))) (hb : w.heap[b.block]? = some (.cells cb tb (0, 0))) :
    Calls Tryz.prog 92 #[.iface 208 (.agg #[.string s, .iface 298 (.pointer (some a))]), .iface 298 (.pointer (some b))] w fun e w' => e = .returned (.bool false) ∧ Below w.heap.size w w' := by
  obtain ⟨i, hi, hcmp⟩ := Option.map_eq_some_iff.1 Tryz.isComp
  obtain ⟨j, hj, hjs⟩ := Option.map_eq_some_iff.1 Tryz.isSize
  have tT := Tryz.isTypeOf
  have cT := Tryz.isComparable
  have mC := Tryz.isMethodComparable
  have mW := Tryz.methodUnwrapW
  have nW := Tryz.noIsW
  have uW := Tryz.hasUnwrapW
  have hty := fun v => run_eql_iface_types (P := Tryz.prog) 208 298 v (.pointer (some b)) Tryz.underlying98 (by decide)
  have nE := Tryz.noIsE
  have uE := Tryz.noUnwrapE
  have vE := Tryz.noUnwrapsE
  have heq := run_eql_iface_ptr_other (P := Tryz.prog) (w.alloc (.cells #[.string s, .iface 298 (.pointer (some a))] 208)) Tryz.underlying98 Tryz.underlying298 hi hcmp hj (by rw [hjs]; decide) hne (heap_alloc_old ha) (heap_alloc_old hb)
  clear hi hcmp hj hjs
  go_enter Tryz.func92, Tryz.ntmps92
  go_wp2
  refine wp_loop_rounds 2 ?_
  rw [rounds_succ]
  go_wp2
  rw [rounds_succ]
  go_wp2
  go_ret
  exact ⟨rfl, ((Below.refl _ _).alloc (Nat.le_refl _) _)⟩

set_option maxRecDepth 1000000 in
set_option maxHeartbeats 800000 in
theorem is_at_same (p : Int) (s : ByteArray) (b : Addr) (w : World) :
    Calls Tryz.prog 92 #[.iface 247 (.agg #[.int .i64 p, .iface 208 (.agg #[.string s, .iface 298 (.pointer (some b))])]), .iface 298 (.pointer (some b))] w fun e w' => e = .returned (.bool true) ∧ Below w.heap.size w w' := by
  obtain ⟨i, hi, hcmp⟩ := Option.map_eq_some_iff.1 Tryz.isComp
  obtain ⟨j, hj, hjs⟩ := Option.map_eq_some_iff.1 Tryz.isSize
  have tT := Tryz.isTypeOf
  have cT := Tryz.isComparable
  have mC := Tryz.isMethodComparable
  have mW := Tryz.methodUnwrapW
  have nW := Tryz.noIsW
  have uW := Tryz.hasUnwrapW
  have hty := fun v => run_eql_iface_types (P := Tryz.prog) 208 298 v (.pointer (some b)) Tryz.underlying98 (by decide)
  have mA := Tryz.methodUnwrapA
  have nA := Tryz.noIsA
  have uA := Tryz.hasUnwrapA
  have hta := fun v => run_eql_iface_types (P := Tryz.prog) 247 298 v (.pointer (some b)) Tryz.underlying98 (by decide)
  have heq := fun w => run_eql_iface_ptr_same (P := Tryz.prog) w b Tryz.underlying98 Tryz.underlying298 hi hcmp hj
  clear hi hcmp hj hjs
  go_enter Tryz.func92, Tryz.ntmps92
  go_wp2
  refine wp_loop_rounds 3 ?_
  rw [rounds_succ]
  go_wp2
  rw [rounds_succ]
  go_wp2
  rw [rounds_succ]
  go_wp2
  go_ret
  exact ⟨rfl, (((Below.refl _ _).alloc (Nat.le_refl _) _).alloc (by simp) _)⟩

set_option maxRecDepth 1000000 in
set_option maxHeartbeats 800000 in
theorem is_at_other (p : Int) (s : ByteArray) (a b : Addr) (w : World) (hne : a ≠ b) {ca cb : Array Value} {ta tb : TypeId} (ha : w.heap[a.block]? = some (.cells ca ta (0, 0))) (hb : w.heap[b.block]? = some (.cells cb tb (0, 0))) :
    Calls Tryz.prog 92 #[.iface 247 (.agg #[.int .i64 p, .iface 208 (.agg #[.string s, .iface 298 (.pointer (some a))])]), .iface 298 (.pointer (some b))] w fun e w' => e = .returned (.bool false) ∧ Below w.heap.size w w' := by
  obtain ⟨i, hi, hcmp⟩ := Option.map_eq_some_iff.1 Tryz.isComp
  obtain ⟨j, hj, hjs⟩ := Option.map_eq_some_iff.1 Tryz.isSize
  have tT := Tryz.isTypeOf
  have cT := Tryz.isComparable
  have mC := Tryz.isMethodComparable
  have mW := Tryz.methodUnwrapW
  have nW := Tryz.noIsW
  have uW := Tryz.hasUnwrapW
  have hty := fun v => run_eql_iface_types (P := Tryz.prog) 208 298 v (.pointer (some b)) Tryz.underlying98 (by decide)
  have mA := Tryz.methodUnwrapA
  have nA := Tryz.noIsA
  have uA := Tryz.hasUnwrapA
  have hta := fun v => run_eql_iface_types (P := Tryz.prog) 247 298 v (.pointer (some b)) Tryz.underlying98 (by decide)
  have nE := Tryz.noIsE
  have uE := Tryz.noUnwrapE
  have vE := Tryz.noUnwrapsE
  have heq := run_eql_iface_ptr_other (P := Tryz.prog) ((w.alloc (.cells #[.int .i64 p, .iface 208 (.agg #[.string s, .iface 298 (.pointer (some a))])] 247)).alloc (.cells #[.string s, .iface 298 (.pointer (some a))] 208)) Tryz.underlying98 Tryz.underlying298 hi hcmp hj (by rw [hjs]; decide) hne (heap_alloc_old (heap_alloc_old ha)) (heap_alloc_old (heap_alloc_old hb))
  clear hi hcmp hj hjs
  go_enter Tryz.func92, Tryz.ntmps92
  go_wp2
  refine wp_loop_rounds 3 ?_
  rw [rounds_succ]
  go_wp2
  rw [rounds_succ]
  go_wp2
  rw [rounds_succ]
  go_wp2
  go_ret
  exact ⟨rfl, (((Below.refl _ _).alloc (Nat.le_refl _) _).alloc (by simp) _)⟩

end Go.Proofs.YtabecbjfamphbaaGreatDoor

/- Plain mathematics of the check sum: the state by bytes and bits, the program's way (a byte is xored in first) and the reference's way (bit by bit); both come to the same. -/
namespace Go.Proofs.YtabecbjfamphbaaGreatDoor
namespace Crc

def poly : Nat := 3988292384
def one (p : Nat) : Nat := if p % 2 = 1 then (p / 2) ^^^ poly else p / 2
def bits : Nat → Nat → Nat
  | 0, p => p
  | n + 1, p => one (bits n p)
/-- The program's way: the state behind a list of bytes. -/
def byte (p : Nat) (b : UInt8) : Nat := bits 8 (p ^^^ b.toNat)
def state (l : List UInt8) : Nat := l.foldl byte 4294967295
def sum (l : List UInt8) : Nat := 4294967295 - state l
/-- The reference's way: one bit of a byte. -/
def refOne (b : Nat) (k : Nat) (x : Nat) : Nat := if x % 2 ≠ (b / 2 ^ k) % 2 then (x / 2) ^^^ poly else x / 2
def refBits (b : Nat) : Nat → Nat → Nat
  | 0, x => x
  | n + 1, x => refOne b n (refBits b n x)

theorem xor_lt {a b : Nat} (ha : a < 4294967296) (hb : b < 4294967296) : a ^^^ b < 4294967296 :=
  Nat.xor_lt_two_pow (n := 32) ha hb
theorem poly_lt : poly < 4294967296 := by decide
theorem one_lt {p : Nat} (h : p < 4294967296) : one p < 4294967296 := by
  unfold one
  have := @poly_lt
  split
  · exact xor_lt (by omega) this
  · omega
theorem bits_lt {p : Nat} (n : Nat) (h : p < 4294967296) : bits n p < 4294967296 := by
  induction n with
  | zero => exact h
  | succ n ih => exact one_lt ih
theorem byte_lt {p : Nat} (b : UInt8) (h : p < 4294967296) : byte p b < 4294967296 := by
  have := b.toNat_lt
  exact bits_lt 8 (xor_lt h (by omega))
theorem fold_lt (l : List UInt8) : ∀ p, p < 4294967296 → l.foldl byte p < 4294967296 := by
  induction l with
  | nil => exact fun p h => h
  | cons b l ih => exact fun p h => ih _ (byte_lt b h)
theorem state_lt (l : List UInt8) : state l < 4294967296 := fold_lt l _ (by decide)
theorem state_snoc (l : List UInt8) (b : UInt8) : state (l ++ [b]) = byte (state l) b := by
  simp [state, List.foldl_append]
theorem sum_lt (l : List UInt8) : sum l < 4294967296 := by unfold sum; omega

theorem xor_half (a b : Nat) : (a ^^^ b) / 2 = a / 2 ^^^ b / 2 := by
  have h := Nat.shiftRight_xor_distrib (a := a) (b := b) (i := 1)
  simpa [Nat.shiftRight_eq_div_pow] using h
theorem xor_odd (a b : Nat) : (a ^^^ b) % 2 = 1 ↔ a % 2 ≠ b % 2 := by
  have h := Nat.xor_mod_two_pow (a := a) (b := b) (n := 1)
  simp only [Nat.pow_one] at h
  rw [h]
  have ha : a % 2 = 0 ∨ a % 2 = 1 := by omega
  have hb : b % 2 = 0 ∨ b % 2 = 1 := by omega
  rcases ha with ha | ha <;> rcases hb with hb | hb <;> rw [ha, hb] <;> decide

theorem ref_bits (b x : Nat) (k : Nat) : bits k (x ^^^ b) = refBits b k x ^^^ (b / 2 ^ k) := by
  induction k with
  | zero => simp [bits, refBits]
  | succ k ih =>
    show one (bits k (x ^^^ b)) = refOne b k (refBits b k x) ^^^ (b / 2 ^ (k + 1))
    rw [ih]
    have e : b / 2 ^ (k + 1) = b / 2 ^ k / 2 := by rw [Nat.pow_succ, Nat.div_div_eq_div_mul]
    rw [e]
    generalize refBits b k x = y
    unfold one refOne
    generalize b / 2 ^ k = c
    have ho := xor_odd y c
    have hh := xor_half y c
    by_cases h : y % 2 = c % 2
    · rw [if_neg (fun hx => (ho.1 hx) h), hh]
      rw [show (if y % 2 ≠ c % 2 then y / 2 ^^^ poly else y / 2) = y / 2 from if_neg (by simp [h])]
    · rw [if_pos (ho.2 h), hh]
      rw [show (if y % 2 ≠ c % 2 then y / 2 ^^^ poly else y / 2) = y / 2 ^^^ poly from if_pos h]
      rw [Nat.xor_assoc, Nat.xor_comm (c / 2) poly, ← Nat.xor_assoc]
theorem ref_byte (p : Nat) (b : UInt8) : refBits b.toNat 8 p = byte p b := by
  have h := ref_bits b.toNat p 8
  have hb := b.toNat_lt
  rw [show b.toNat / 2 ^ 8 = 0 from Nat.div_eq_of_lt (by simpa using hb), Nat.xor_zero] at h
  exact h.symm
theorem refBits_lt {p : Nat} (b : Nat) (n : Nat) (h : p < 4294967296) : refBits b n p < 4294967296 := by
  induction n with
  | zero => exact h
  | succ n ih =>
    show refOne b n _ < _
    unfold refOne
    have := @poly_lt
    split
    · exact xor_lt (by omega) this
    · omega
theorem take_snoc (s : ByteArray) (k : Nat) (h : k < s.size) : s.data.toList.take (k + 1) = s.data.toList.take k ++ [s[k]] := by
  rw [List.take_succ_eq_append_getElem (by simpa using h)]; rfl
theorem state_take (s : ByteArray) (k : Nat) (h : k < s.size) : state (s.data.toList.take (k + 1)) = byte (state (s.data.toList.take k)) s[k] := by
  rw [take_snoc s k h, state_snoc]

end Crc
end Go.Proofs.YtabecbjfamphbaaGreatDoor

/- The walks of the two check sums: the program's Sum and the reference's Sum both answer Crc.sum. -/
namespace Go.Proofs.YtabecbjfamphbaaGreatDoor
open Go.RowKit

theorem ret_int {k : IntKind} {a b : Int} (h : a = b) : Ending.returned (.int k a) = .returned (.int k b) := by rw [h]
theorem val_int {k : IntKind} {a b : Int} (h : a = b) : Value.int k a = .int k b := by rw [h]
theorem xor_start {p b : Nat} (hp : p < 4294967296) (hb : b < 256) : bits .xor .u32 (p : Int) (b : Int) = ((Crc.bits 0 (p ^^^ b) : Nat) : Int) :=
  u32_xor_nat p b hp (by omega)
theorem and_one {q : Nat} (hq : q < 4294967296) : bits .and .u32 (q : Int) 1 = ((q % 2 : Nat) : Int) := by
  have h := u32_and_nat q 1 hq (by decide)
  rw [Nat.and_one_is_mod] at h
  exact h
theorem step_yes {q x j : Nat} (hq : q < 4294967296) (h : (bits .and .u32 (q : Int) 1 == 1) = true) (hx : Crc.bits j x = q) :
    bits .xor .u32 ((q : Int) / 2) 3988292384 = ((Crc.bits (j + 1) x : Nat) : Int) := by
  rw [and_one hq] at h
  have h1 : q % 2 = 1 := by have := beq_iff_eq.1 h; omega
  have e : Crc.bits (j + 1) x = (q / 2) ^^^ Crc.poly := by show Crc.one (Crc.bits j x) = _; rw [hx]; unfold Crc.one; rw [if_pos h1]
  rw [e]
  have := u32_xor_nat (q / 2) 3988292384 (by omega) (by decide)
  rw [show Crc.poly = 3988292384 from rfl]
  simpa using this
theorem step_no {q x j : Nat} (hq : q < 4294967296) (h : (bits .and .u32 (q : Int) 1 == 1) = false) (hx : Crc.bits j x = q) :
    ((q : Int) / 2) = ((Crc.bits (j + 1) x : Nat) : Int) := by
  rw [and_one hq] at h
  have h1 : ¬ q % 2 = 1 := by have := beq_eq_false_iff_ne.1 h; omega
  have e : Crc.bits (j + 1) x = q / 2 := by show Crc.one (Crc.bits j x) = _; rw [hx]; unfold Crc.one; rw [if_neg h1]
  rw [e]; omega

theorem i64_xor_nat (a b : Nat) (ha : a < 4611686018427387904) (hb : b < 4611686018427387904) : bits .xor .i64 (a : Int) (b : Int) = ((a ^^^ b : Nat) : Int) := by
  have hx : a ^^^ b < 2 ^ 62 := Nat.xor_lt_two_pow (by omega) (by omega)
  have o : ∀ n : Nat, n < 4611686018427387904 → (BitVec.ofInt 64 (n : Int)).toNat = n := fun n hn => by
    rw [BitVec.ofInt_natCast, BitVec.toNat_ofNat]; exact Nat.mod_eq_of_lt (by omega)
  show IntKind.i64.wrap ((BitVec.ofInt 64 (a : Int) ^^^ BitVec.ofInt 64 (b : Int)).toNat : Int) = _
  rw [BitVec.toNat_xor, o a ha, o b hb]
  generalize a ^^^ b = c at *
  simp only [IntKind.wrap, IntKind.bits, IntKind.signed]
  simp
  omega
theorem shr_bit {b j : Nat} (hb : b < 256) : (wrap64 ((b : Int) / 2 ^ j)).tmod 2 = ((b / 2 ^ j % 2 : Nat) : Int) := by
  have e : ((b : Int) / 2 ^ j) = ((b / 2 ^ j : Nat) : Int) := by simp
  have hle : b / 2 ^ j ≤ b := Nat.div_le_self _ _
  rw [e]
  generalize b / 2 ^ j = c at *
  rw [IntWalk.wrap64_in _ (by omega), Int.tmod_eq_emod_of_nonneg (by omega)]
  omega
theorem ref_yes {q x b j : Nat} (hq : q < 4294967296) (hb : b < 256) (h : ((q : Int) % 2 != (wrap64 ((b : Int) / 2 ^ j)).tmod 2) = true) (hx : Crc.refBits b j x = q) :
    bits .xor .i64 ((q : Int) / 2) 3988292384 = ((Crc.refBits b (j + 1) x : Nat) : Int) := by
  rw [shr_bit hb] at h
  have h1 : q % 2 ≠ b / 2 ^ j % 2 := by have := bne_iff_ne.1 h; omega
  have e : Crc.refBits b (j + 1) x = (q / 2) ^^^ Crc.poly := by show Crc.refOne b j (Crc.refBits b j x) = _; rw [hx]; unfold Crc.refOne; rw [if_pos h1]
  rw [e]
  have := i64_xor_nat (q / 2) 3988292384 (by omega) (by decide)
  rw [show Crc.poly = 3988292384 from rfl]
  simpa using this
theorem ref_no {q x b j : Nat} (hb : b < 256) (h : ((q : Int) % 2 != (wrap64 ((b : Int) / 2 ^ j)).tmod 2) = false) (hx : Crc.refBits b j x = q) :
    ((q : Int) / 2) = ((Crc.refBits b (j + 1) x : Nat) : Int) := by
  rw [shr_bit hb] at h
  have h1 : q % 2 = b / 2 ^ j % 2 := by have := bne_eq_false_iff_eq.1 h; omega
  have e : Crc.refBits b (j + 1) x = q / 2 := by show Crc.refOne b j (Crc.refBits b j x) = _; rw [hx]; unfold Crc.refOne; rw [if_neg (by simp [h1])]
  rw [e]; omega
theorem xor_all {p : Nat} (h : p < 4294967296) : 4294967295 ^^^ p = 4294967295 - p := by
  have := Nat.xor_mod_two_pow (a := 4294967295) (b := p) (n := 32)
  have e := BitVec.toNat_not (x := BitVec.ofNat 32 p)
  have e2 : ~~~ (BitVec.ofNat 32 p) = BitVec.allOnes 32 ^^^ BitVec.ofNat 32 p := by rw [BitVec.allOnes_xor]
  rw [e2, BitVec.toNat_xor, BitVec.toNat_allOnes, BitVec.toNat_ofNat, Nat.mod_eq_of_lt (by omega)] at e
  simpa using e
theorem not_u32 {p : Nat} (h : p < 4294967296) : wrap64 (bits .xor .u32 IntKind.u32.max (p : Int)) = ((4294967295 - p : Nat) : Int) := by
  have hm : IntKind.u32.max = ((4294967295 : Nat) : Int) := by decide
  rw [hm, u32_xor_nat _ _ (by decide) h, xor_all h, IntWalk.wrap64_in _ (by omega)]
theorem sum_all {s : ByteArray} {k p : Nat} (hk : ¬ k < s.size) (h : Crc.state (s.data.toList.take k) = p) : Crc.sum s.data.toList = 4294967295 - p := by
  rw [← h, List.take_of_length_le (by simpa using hk)]; rfl

set_option maxHeartbeats 400000 in
theorem wireSum_any (s : ByteArray) (w : World) (hs : s.size ≤ maxLen) :
    Calls Tryz.prog 183 #[.string s] w fun e w' => e = .returned (.int .i64 (Crc.sum s.data.toList)) ∧ w' = w := by
  unfold maxLen at hs
  go_enter Tryz.func183, Tryz.ntmps183
  go_wp2
  go_loop [3, 8] (fun n i => ∃ k : Nat, k ≤ s.size ∧ i = .int .i64 k ∧ n = .int .u32 (Crc.state (s.data.toList.take k))) (fun _ i => s.size - (intOf i).toNat)
  case atStart => exact ⟨0, Nat.zero_le _, rfl, rfl⟩
  case round =>
    obtain ⟨k, hk, rfl, rfl⟩ := hrel
    have hst := Crc.state_lt (s.data.toList.take k)
    generalize hg : Crc.state (s.data.toList.take k) = p at *
    have HG : Hid (Crc.state (s.data.toList.take k) = p) := hg
    clear hg
    by_cases hlt : k < s.size
    · have hb := s[k].toNat_lt
      have HS : Hid (Crc.state (s.data.toList.take (k + 1)) = Crc.bits 8 (p ^^^ s[k].toNat)) := by rw [Crc.state_take s k hlt, HG.out]; rfl
      go_wp2
      go_loop [3, 17] (fun n i => ∃ j : Nat, j ≤ 8 ∧ i = .int .i64 j ∧ n = .int .u32 (Crc.bits j (p ^^^ s[k].toNat))) (fun _ i => 8 - (intOf i).toNat)
      case atStart => exact ⟨0, Nat.zero_le _, rfl, val_int (xor_start hst hb)⟩
      case round =>
        obtain ⟨j, hj, rfl, rfl⟩ := hrel
        have hq := Crc.bits_lt j (Crc.xor_lt hst (show s[k].toNat < 4294967296 by omega))
        generalize hgq : Crc.bits j (p ^^^ s[k].toNat) = q at *
        have HQ : Hid (Crc.bits j (p ^^^ s[k].toNat) = q) := hgq
        clear hgq
        by_cases hj8 : j < 8
        · go_wp2
          all_goals
            go_round
            case rel => exact ⟨j + 1, by omega, by go_num, val_int (by first | exact step_yes hq ‹_› HQ.out | exact step_no hq ‹_› HQ.out)⟩
            case measure => simp [intOf]; omega
        · go_wp2
          go_round
          case rel => exact ⟨k + 1, by omega, by go_num, val_int (by rw [HS.out, ← HQ.out, show j = 8 by omega])⟩
          case measure => simp [intOf]; omega
    · go_wp2
      go_ret
      exact ⟨ret_int (by rw [not_u32 hst, sum_all hlt HG.out]), rfl⟩

set_option maxHeartbeats 400000 in
theorem refSum_any (s : ByteArray) (w : World) (hs : s.size ≤ maxLen) :
    Calls Tryz.prog 160 #[.string s] w fun e w' => e = .returned (.int .i64 (Crc.sum s.data.toList)) ∧ w' = w := by
  unfold maxLen at hs
  go_enter Tryz.func160, Tryz.ntmps160
  go_wp2
  go_loop [3, 4] (fun n i => ∃ k : Nat, k ≤ s.size ∧ i = .int .i64 k ∧ n = .int .i64 (Crc.state (s.data.toList.take k))) (fun _ i => s.size - (intOf i).toNat)
  case atStart => exact ⟨0, Nat.zero_le _, rfl, rfl⟩
  case round =>
    obtain ⟨k, hk, rfl, rfl⟩ := hrel
    have hst := Crc.state_lt (s.data.toList.take k)
    generalize hg : Crc.state (s.data.toList.take k) = p at *
    have HG : Hid (Crc.state (s.data.toList.take k) = p) := hg
    clear hg
    by_cases hlt : k < s.size
    · have hb := s[k].toNat_lt
      have HS : Hid (Crc.state (s.data.toList.take (k + 1)) = Crc.refBits s[k].toNat 8 p) := by rw [Crc.state_take s k hlt, HG.out, Crc.ref_byte]; exact rfl
      go_wp2
      go_loop [3, 5] (fun n i => ∃ j : Nat, j ≤ 8 ∧ i = .int .i64 j ∧ n = .int .i64 (Crc.refBits s[k].toNat j p)) (fun _ i => 8 - (intOf i).toNat)
      case atStart => exact ⟨0, Nat.zero_le _, rfl, rfl⟩
      case round =>
        obtain ⟨j, hj, rfl, rfl⟩ := hrel
        have hq := Crc.refBits_lt s[k].toNat j hst
        generalize hgq : Crc.refBits s[k].toNat j p = q at *
        have HQ : Hid (Crc.refBits s[k].toNat j p = q) := hgq
        clear hgq
        by_cases hj8 : j < 8
        · go_wp2
          all_goals
            go_round
            case rel => exact ⟨j + 1, by omega, by go_num, val_int (by first | exact ref_yes hq hb ‹_› HQ.out | exact ref_no hb ‹_› HQ.out)⟩
            case measure => simp [intOf]; omega
        · go_wp2
          go_round
          case rel => exact ⟨k + 1, by omega, by go_num, val_int (by rw [HS.out, ← HQ.out, show j = 8 by omega])⟩
          case measure => simp [intOf]; omega
    · go_wp2
      go_ret
      exact ⟨ret_int (by rw [sum_all hlt HG.out]; omega), rfl⟩
end Go.Proofs.YtabecbjfamphbaaGreatDoor

/- The walks of the group's check, the program's and the reference's, and of 'number', which asks an error for its number. -/
namespace Go.Proofs.YtabecbjfamphbaaGreatDoor
open Go.RowKit Go.Stop Go.Extern

/-- The variable that holds the sentinel of each number. -/
def gOf : Nat → Nat
  | 1 => 0
  | 2 => 1
  | 3 => 2
  | 4 => 3
  | 5 => 4
  | 6 => 5
  | 7 => 6
  | _ => 7
/-- What the walks ask of the eight sentinels in a world. -/
structure Sents (w : World) (A : Nat → Addr) : Prop where
  c : ∀ k, 1 ≤ k → k ≤ 8 → w.cell? ⟨gOf k, 0, none⟩ = some (.iface 298 (.pointer (some (A k))))
  ne : ∀ i j, 1 ≤ i → i ≤ 8 → 1 ≤ j → j ≤ 8 → i ≠ j → A i ≠ A j
  b : ∀ k, 1 ≤ k → k ≤ 8 → ∃ ca ta, w.heap[(A k).block]? = some (.cells ca ta (0, 0))
/-- .. as the walks of the frames ask it: that of arguments and that of frames by name. -/
structure Sent (w : World) (a0 a1 : Addr) : Prop where
  all : ∃ A, Sents w A ∧ A 1 = a0 ∧ A 5 = a1
theorem lt_of_some {w : World} {k : Nat} {o : Obj} (h : w.heap[k]? = some o) : k < w.heap.size := by
  rcases Nat.lt_or_ge k w.heap.size with h' | h'
  · exact h'
  · simp [Array.getElem?_eq_none h'] at h
theorem lt_of_cell {w : World} {b o : Nat} {v : Value} (h : w.cell? ⟨b, o, none⟩ = some v) : b < w.heap.size := by
  rcases Nat.lt_or_ge b w.heap.size with h' | h'
  · exact h'
  · simp [World.cell?, Array.getElem?_eq_none h'] at h
theorem Sents.below {w w' : World} {A : Nat → Addr} (h : Sents w A) (hb : Below w.heap.size w w') : Sents w' A :=
  ⟨fun k h1 h8 => (hb.cell (lt_of_cell (h.c k h1 h8))).trans (h.c k h1 h8), h.ne, fun k h1 h8 => by
    obtain ⟨c0, t0, e0⟩ := h.b k h1 h8
    exact ⟨c0, t0, (hb.block _ (lt_of_some e0)).trans e0⟩⟩
theorem Sent.below {w w' : World} {a0 a1 : Addr} (h : Sent w a0 a1) (hb : Below w.heap.size w w') : Sent w' a0 a1 := by
  obtain ⟨A, hA, e0, e1⟩ := h.all
  exact ⟨⟨A, hA.below hb, e0, e1⟩⟩
theorem Sent.c0 {w : World} {a0 a1 : Addr} (h : Sent w a0 a1) : w.cell? ⟨0, 0, none⟩ = some (.iface 298 (.pointer (some a0))) := by
  obtain ⟨A, hA, e0, e1⟩ := h.all
  rw [← e0]; exact hA.c 1 (by omega) (by omega)
theorem Sent.c1 {w : World} {a0 a1 : Addr} (h : Sent w a0 a1) : w.cell? ⟨4, 0, none⟩ = some (.iface 298 (.pointer (some a1))) := by
  obtain ⟨A, hA, e0, e1⟩ := h.all
  rw [← e1]; exact hA.c 5 (by omega) (by omega)
theorem Sent.alloc {w : World} {a0 a1 : Addr} (h : Sent w a0 a1) (o : Obj) : Sent (w.alloc o) a0 a1 := h.below ((Below.refl _ _).alloc (Nat.le_refl _) _)
theorem Sent.drew {w : World} {a0 a1 : Addr} (h : Sent w a0 a1) : Sent w.drew a0 a1 := h.below (Below.refl _ _).drew

theorem bthen {w w1 w2 : World} (h : Below w.heap.size w w1) (k : Below w1.heap.size w1 w2) : Below w.heap.size w w2 := h.trans (k.mono h.size)
/-- The errors that the program makes, and the number of each. -/
structure IsErrA (A : Nat → Addr) (e : Value) (k : Nat) : Prop where
  how : (e = .nilIface ∧ k = 0) ∨ (1 ≤ k ∧ k ≤ 8 ∧ ∃ s, e = .iface 208 (.agg #[.string s, .iface 298 (.pointer (some (A k)))]))
    ∨ (1 ≤ k ∧ k ≤ 8 ∧ ∃ p s, e = .iface 247 (.agg #[.int .i64 p, .iface 208 (.agg #[.string s, .iface 298 (.pointer (some (A k)))])]))
structure IsErr (a0 a1 : Addr) (e : Value) (n : Int) : Prop where
  how : (e = .nilIface ∧ n = 0) ∨ (∃ s, e = .iface 208 (.agg #[.string s, .iface 298 (.pointer (some a0))]) ∧ n = 1)
    ∨ (∃ s, e = .iface 208 (.agg #[.string s, .iface 298 (.pointer (some a1))]) ∧ n = 5)
    ∨ (∃ p s, e = .iface 247 (.agg #[.int .i64 p, .iface 208 (.agg #[.string s, .iface 298 (.pointer (some a1))])]) ∧ n = 5)

/-- errors.Is over an error that the program made: it is that of its own number alone. -/
theorem is_any {A : Nat → Addr} {e : Value} {k : Nat} (he : IsErrA A e k) (j : Nat) (h1 : 1 ≤ j) (h8 : j ≤ 8) (w : World) (hw : Sents w A) :
    Calls Tryz.prog 92 #[e, .iface 298 (.pointer (some (A j)))] w fun r w' => r = .returned (.bool (decide (j = k))) ∧ Below w.heap.size w w' := by
  rcases he.how with ⟨rfl, rfl⟩ | ⟨k1, k8, s, rfl⟩ | ⟨k1, k8, p, s, rfl⟩
  · refine (is_nil _ _).mono ?_
    rintro r w' ⟨rfl, rfl⟩
    exact ⟨by rw [decide_eq_false (by omega)], Below.refl _ _⟩
  · by_cases hjk : j = k
    · subst hjk
      refine (is_why_same s (A j) w).mono ?_
      rintro r w' ⟨rfl, hb⟩
      exact ⟨by simp, hb⟩
    · obtain ⟨ca, ta, hb0⟩ := hw.b k k1 k8
      obtain ⟨cb, tb, hb1⟩ := hw.b j h1 h8
      refine (is_why_other s (A k) (A j) w (hw.ne k j k1 k8 h1 h8 (Ne.symm hjk)) hb0 hb1).mono ?_
      rintro r w' ⟨rfl, hb⟩
      exact ⟨by rw [decide_eq_false hjk], hb⟩
  · by_cases hjk : j = k
    · subst hjk
      refine (is_at_same p s (A j) w).mono ?_
      rintro r w' ⟨rfl, hb⟩
      exact ⟨by simp, hb⟩
    · obtain ⟨ca, ta, hb0⟩ := hw.b k k1 k8
      obtain ⟨cb, tb, hb1⟩ := hw.b j h1 h8
      refine (is_at_other p s (A k) (A j) w (hw.ne k j k1 k8 h1 h8 (Ne.symm hjk)) hb0 hb1).mono ?_
      rintro r w' ⟨rfl, hb⟩
      exact ⟨by rw [decide_eq_false hjk], hb⟩
theorem IsErrA.le {A : Nat → Addr} {e : Value} {k : Nat} (h : IsErrA A e k) : k ≤ 8 := by
  rcases h.how with ⟨_, rfl⟩ | ⟨_, h, _⟩ | ⟨_, h, _⟩ <;> omega

set_option maxRecDepth 100000 in
set_option maxHeartbeats 1000000 in
theorem numberA_any (A : Nat → Addr) (e : Value) (k : Nat) (he : IsErrA A e k) (w : World) (hw : Sents w A) :
    Calls Tryz.prog 53 #[e] w fun r w' => r = .returned (.int .i64 (k : Int)) ∧ Below w.heap.size w w' := by
  have HI : Hid (∀ j, 1 ≤ j → j ≤ 8 → j ≠ k → ∀ w, Sents w A → Calls Tryz.prog 92 #[e, .iface 298 (.pointer (some (A j)))] w fun r w' => r = .returned (.bool false) ∧ Below w.heap.size w w') := fun j h1 h8 hjk w hw => by
    have := is_any he j h1 h8 w hw
    rw [decide_eq_false hjk] at this
    exact this
  have HY : Hid (1 ≤ k → k ≤ 8 → ∀ w, Sents w A → Calls Tryz.prog 92 #[e, .iface 298 (.pointer (some (A k)))] w fun r w' => r = .returned (.bool true) ∧ Below w.heap.size w w') := fun h1 h8 w hw => by
    have := is_any he k h1 h8 w hw
    rw [decide_eq_true rfl] at this
    exact this
  have hk8 := he.le
  have HW : Hid (Sents w A) := hw
  have HB : Hid (Below w.heap.size w w) := Below.refl _ _
  have c1 := hw.c 1 (by omega) (by omega)
  have hk : k = 0 ∨ k = 1 ∨ k = 2 ∨ k = 3 ∨ k = 4 ∨ k = 5 ∨ k = 6 ∨ k = 7 ∨ k = 8 := by omega
  unfold gOf at c1
  clear he hw hk8
  rcases hk with rfl | rfl | rfl | rfl | rfl | rfl | rfl | rfl | rfl
  all_goals
    go_enter Tryz.func53, Tryz.ntmps53
    go_wp2_with (go_at_call 92; first
      | (refine (HI.out _ (by decide) (by decide) (by decide) _ HW.out).mono ?_; rintro r wn ⟨rfl, hb⟩; have hw := HW.out.below hb; have HB1 : Hid _ := bthen HB.out hb; clear HB; have HB : Hid _ := HB1.out; clear HB1; have HW1 : Hid _ := hw; clear HW; have HW : Hid _ := HW1.out; clear HW1 hb c1; have c1 := hw.c 1 (by omega) (by omega); have c2 := hw.c 2 (by omega) (by omega); have c3 := hw.c 3 (by omega) (by omega); have c4 := hw.c 4 (by omega) (by omega); have c5 := hw.c 5 (by omega) (by omega); have c6 := hw.c 6 (by omega) (by omega); have c7 := hw.c 7 (by omega) (by omega); have c8 := hw.c 8 (by omega) (by omega); unfold gOf at c1 c2 c3 c4 c5 c6 c7 c8; clear hw)
      | (refine (HY.out (by decide) (by decide) _ HW.out).mono ?_; rintro r wn ⟨rfl, hb⟩; have HB1 : Hid _ := bthen HB.out hb; clear HB; have HB : Hid _ := HB1.out; clear HB1 hb c1))
    go_ret
    exact ⟨rfl, HB.out⟩

theorem number_any (a0 a1 : Addr) (e : Value) (n : Int) (he : IsErr a0 a1 e n) (w : World) (hw : Sent w a0 a1) :
    Calls Tryz.prog 53 #[e] w fun e w' => e = .returned (.int .i64 n) ∧ Below w.heap.size w w' := by
  obtain ⟨A, hA, rfl, rfl⟩ := hw.all
  rcases he.how with ⟨rfl, rfl⟩ | ⟨s, rfl, rfl⟩ | ⟨s, rfl, rfl⟩ | ⟨p, s, rfl, rfl⟩
  · exact numberA_any A _ 0 ⟨Or.inl ⟨rfl, rfl⟩⟩ w hA
  · exact numberA_any A _ 1 ⟨Or.inr (Or.inl ⟨by omega, by omega, s, rfl⟩)⟩ w hA
  · exact numberA_any A _ 5 ⟨Or.inr (Or.inl ⟨by omega, by omega, s, rfl⟩)⟩ w hA
  · exact numberA_any A _ 5 ⟨Or.inr (Or.inr ⟨by omega, by omega, p, s, rfl⟩)⟩ w hA

set_option maxHeartbeats 400000 in
theorem groupRefuse_any (a0 a1 : Addr) (s : ByteArray) (w : World) (hw : Sent w a0 a1) :
    Calls Tryz.prog 144 #[.string s] w fun e w' => e = .returned (.iface 208 (.agg #[.string s, .iface 298 (.pointer (some a0))])) ∧ w' = w := by
  have c0 := hw.c0
  clear hw
  go_enter Tryz.func144, Tryz.ntmps144
  go_wp2
  go_ret
  exact ⟨rfl, rfl⟩
set_option maxHeartbeats 400000 in
theorem wireRefuse_any (a0 a1 : Addr) (s : ByteArray) (w : World) (hw : Sent w a0 a1) :
    Calls Tryz.prog 227 #[.string s] w fun e w' => e = .returned (.iface 208 (.agg #[.string s, .iface 298 (.pointer (some a1))])) ∧ w' = w := by
  have c1 := hw.c1
  clear hw
  go_enter Tryz.func227, Tryz.ntmps227
  go_wp2
  go_ret
  exact ⟨rfl, rfl⟩
set_option maxHeartbeats 400000 in
theorem refuseAt_any (a0 a1 : Addr) (p : Int) (s : ByteArray) (w : World) (hw : Sent w a0 a1) :
    Calls Tryz.prog 209 #[.int .i64 p, .string s] w fun e w' => e = .returned (.iface 247 (.agg #[.int .i64 p, .iface 208 (.agg #[.string s, .iface 298 (.pointer (some a1))])])) ∧ w' = w := by
  have HW : Hid (Sent w a0 a1) := hw
  clear hw
  go_enter Tryz.func209, Tryz.ntmps209
  go_wp2_with (go_at_call 227; refine (wireRefuse_any a0 a1 _ _ HW.out).mono ?_; rintro e w' ⟨rfl, rfl⟩)
  go_ret
  exact ⟨rfl, rfl⟩
end Go.Proofs.YtabecbjfamphbaaGreatDoor
