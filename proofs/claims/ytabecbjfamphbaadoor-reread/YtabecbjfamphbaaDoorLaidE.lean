/-
  What the listed variables give the walks of Decode: the eight sentinels and the library's type of error.
-/
import Derived.Test.YtabecbjfamphbaaDoorLaid
import Derived.Test.YtabecbjfamphbaaDoorAsD
import Derived.LaidHandle
namespace Go.Proofs.YtabecbjfamphbaaDoor
open Go.RowKit Go.Stop Go.Extern
set_option maxRecDepth 100000

theorem errT_of {W : World} (h : laidMetH Tryd.prog Rows.decodesRow.laid W) : (∃ a0 a1, Sent W a0 a1) ∧ ErrT W := by
  obtain ⟨h1, h2⟩ := laidMetH_iff.1 h
  constructor
  · have e : (Rows.decodesRow.laid.filter fun x => x.2.handleName?.isNone) = Rows.encodesRow.laid := by kernel_rfl
    rw [e] at h1
    obtain ⟨A, hA⟩ := sents_of h1
    exact ⟨A 1, A 5, ⟨A, hA, rfl, rfl⟩⟩
  · have h3 := h2 ("errors.errorType", Rows.laid_errors_errorType) (by
      have e : (Rows.decodesRow.laid.filter fun x => x.2.handleName?.isSome) = [("errors.errorType", Rows.laid_errors_errorType)] := by kernel_rfl
      rw [e]
      exact List.mem_singleton.2 rfl)
    have e0 : (Rows.laid_errors_errorType : DataW Unit).funcsIn? = none := by kernel_rfl
    simp only [e0] at h3
    obtain ⟨name, u, ty, hn, hu, hlt, hrow, hv⟩ := h3
    have en : (Rows.laid_errors_errorType : DataW Unit).handleName? = some [101, 114, 114, 111, 114] := by kernel_rfl
    rw [en] at hn
    cases hn
    have eu : (Tryd.prog.cutTypes.find? (·.1 == "internal/reflectlite.rtype")).map (·.2) = some 119 := by kernel_rfl
    rw [eu] at hu
    cases hu
    have hall : ((List.range Tryd.prog.types.size).all fun t => !Tryd.prog.rowNamed t [101, 114, 114, 111, 114] || t == 63) = true := by kernel_rfl
    have hty : ty = 63 := by
      have := List.all_eq_true.1 hall ty (List.mem_range.2 hlt)
      rw [hrow] at this
      simpa using this
    subst hty
    have hc := var_cell (g := 8) (by kernel_rfl) hv
    have e : typeHandle Tryd.prog 63 = .pointer (some ⟨9, 63, none⟩) := by kernel_rfl
    rw [e] at hc
    exact hc
end Go.Proofs.YtabecbjfamphbaaDoor
