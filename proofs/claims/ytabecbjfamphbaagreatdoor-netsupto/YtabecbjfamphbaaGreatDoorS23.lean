/-
  Texts that the proof needs, joined: AsD, Of, Ol.
-/
import Derived.Test.YtabecbjfamphbaaGreatDoorS03
import Derived.Test.YtabecbjfamphbaaGreatDoorS10
import Derived.Test.YtabecbjfamphbaaGreatDoorS22
import Derived.LaidHandle
import Derived.Test.YtabecbjfamphbaaGreatDoorS21
import Derived.Test.YtabecbjfamphbaaGreatDoorS04
/- errors.As as it stands, and 'place', which asks an error for its place. -/
namespace Go.Proofs.YtabecbjfamphbaaGreatDoor
open Go.RowKit Go.Stop Go.Extern

/-- The variable errors.errorType. -/
def ErrT (w : World) : Prop := w.cell? ⟨8, 0, none⟩ = some (.iface 252 (.agg #[.pointer (some ⟨9, 98, none⟩)]))
end Go.Proofs.YtabecbjfamphbaaGreatDoor

/- What the listed variables of a law that decodes give the walks: the eight sentinels and the library's type of error. -/
namespace Go.Proofs.YtabecbjfamphbaaGreatDoor
open Go.RowKit Go.Stop Go.Extern
set_option maxRecDepth 100000

theorem slT_of {W : World} (h : laidMetH Tryz.prog Rows.boundedRow.laid W) : (∃ A, Sl W A W.heap.size) ∧ ErrT W := by
  obtain ⟨h1, h2⟩ := laidMetH_iff.1 h
  constructor
  · have e : (Rows.boundedRow.laid.filter fun x => x.2.handleName?.isNone) = Rows.causalRow.laid := by kernel_rfl
    rw [e] at h1
    obtain ⟨A, hA⟩ := sents_of h1
    exact ⟨A, hA, fun k h1 h2 => ⟨lt_of_cell (hA.c k h1 h2), by
      obtain ⟨ca, ta, e⟩ := hA.b k h1 h2
      exact lt_of_some e⟩⟩
  · have h3 := h2 ("errors.errorType", Rows.laid_errors_errorType) (by
      have e : (Rows.boundedRow.laid.filter fun x => x.2.handleName?.isSome) = [("errors.errorType", Rows.laid_errors_errorType)] := by kernel_rfl
      rw [e]
      exact List.mem_singleton.2 rfl)
    have e0 : (Rows.laid_errors_errorType : DataW Unit).funcsIn? = none := by kernel_rfl
    simp only [e0] at h3
    obtain ⟨name, u, ty, hn, hu, hlt, hrow, hv⟩ := h3
    have en : (Rows.laid_errors_errorType : DataW Unit).handleName? = some [101, 114, 114, 111, 114] := by kernel_rfl
    rw [en] at hn
    cases hn
    have eu : (Tryz.prog.cutTypes.find? (·.1 == "internal/reflectlite.rtype")).map (·.2) = some 252 := by kernel_rfl
    rw [eu] at hu
    cases hu
    have hall : ((List.range Tryz.prog.types.size).all fun t => !Tryz.prog.rowNamed t [101, 114, 114, 111, 114] || t == 98) = true := by kernel_rfl
    have hty : ty = 98 := by
      have := List.all_eq_true.1 hall ty (List.mem_range.2 hlt)
      rw [hrow] at this
      simpa using this
    subst hty
    have hc := var_cell (g := 8) (by kernel_rfl) hv
    have e : typeHandle Tryz.prog 98 = .pointer (some ⟨9, 98, none⟩) := by kernel_rfl
    rw [e] at hc
    exact hc
end Go.Proofs.YtabecbjfamphbaaGreatDoor

/- A script of the law, in memory. -/
namespace Go.Proofs.YtabecbjfamphbaaGreatDoor
open Go.RowKit Go.Stop Go.Extern

/-- A step of the law's script. -/
structure Opp where
  K : Int
  on : Int
  a : Int
  s : ByteArray
  N : Int
  W : Int
  B : Int
  L : Int
  f0 : Int
  f1 : Int
  f2 : Int
  f3 : Int
  f4 : Int
  fa : Option Addr
  fl : Nat
  fc : Nat
  fb : ByteArray
structure Opp.Ok (w : World) (o : Opp) : Prop where
  K : I64 o.K
  on : I64 o.on
  a : I64 o.a
  c : I64 o.N ∧ I64 o.W ∧ I64 o.B ∧ I64 o.L
  f : I64 o.f0 ∧ I64 o.f1 ∧ I64 o.f2 ∧ I64 o.f3 ∧ I64 o.f4
  vec : ∃ vs, Ints w o.fa o.fl vs ∧ ∀ v ∈ vs, I64 v
  s : o.s.size ≤ maxLen
  b : o.fb.size ≤ maxLen
theorem Opp.Ok.below {w y : World} {o : Opp} (h : o.Ok w) (hb : Below w.heap.size w y) : o.Ok y := ⟨h.K, h.on, h.a, h.c, h.f, by
  obtain ⟨vs, h1, h2⟩ := h.vec
  exact ⟨vs, h1.below hb, h2⟩, h.s, h.b⟩
def Opp.cells (o : Opp) : List Value := [.int .i64 o.K, .int .i64 o.on, .int .i64 o.a, .string o.s, .int .i64 o.N, .int .i64 o.W, .int .i64 o.B, .int .i64 o.L, .int .i64 o.f0, .int .i64 o.f1, .int .i64 o.f2, .int .i64 o.f3, .int .i64 o.f4, .slice o.fa o.fl o.fc, .string o.fb]
instance : Inhabited Opp := ⟨⟨0, 0, 0, ⟨#[]⟩, 0, 0, 0, 0, 0, 0, 0, 0, 0, none, 0, 0, ⟨#[]⟩⟩⟩
/-- A script in memory. -/
structure Ops (w : World) (z : Nat) (ad : Option Addr) (ops : List Opp) : Prop where
  ok : ∀ o ∈ ops, o.Ok w
  at' : ∀ i o, ops[i]? = some o → ∃ b off, ad = some ⟨b, off, none⟩ ∧ b < z ∧ ∀ j, j < 15 → w.cell? ⟨b, off + i * 15 + j, none⟩ = o.cells[j]?
end Go.Proofs.YtabecbjfamphbaaGreatDoor
