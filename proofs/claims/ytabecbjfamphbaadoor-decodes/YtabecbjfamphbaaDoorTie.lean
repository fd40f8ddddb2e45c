/-
  DERIVED. GIVEN WITH THE SEED: THE PROGRAM's TIES (one call each: nine closed facts by the kernel) AND EACH ROW's TIE, after the 31st guide's Derived/Test/Toyas{Tie, Card}.lean. No idea stands in it: it is a product of the set-up. Laid BY PROGRAM, IN A SANDBOX (cutbox-door.mjs). By AI agents, Wed Nov 11 2026. No macro, syntax, notation, axiom, sorry.
-/
import Derived.Test.YtabecbjfamphbaaDoorRows
import Derived.LaidByTextLater
import Derived.SevenTiedAt
import Derived.LaidSub
import Derived.LaidOnce
namespace Go.Proofs.YtabecbjfamphbaaDoor
open Go
set_option maxRecDepth 100000
theorem seatTie1 : Tryd.prog.laidByTextLater [("errors.errorType", Rows.laid_errors_errorType), ("hearsay/fault.Arg", Rows.laid_hearsay_fault_Arg), ("hearsay/fault.Long", Rows.laid_hearsay_fault_Long), ("hearsay/fault.Spent", Rows.laid_hearsay_fault_Spent), ("hearsay/fault.Busy", Rows.laid_hearsay_fault_Busy), ("hearsay/fault.Frame", Rows.laid_hearsay_fault_Frame), ("hearsay/fault.Self", Rows.laid_hearsay_fault_Self), ("hearsay/fault.Old", Rows.laid_hearsay_fault_Old), ("hearsay/fault.Far", Rows.laid_hearsay_fault_Far)] [.handle, .sentinel, .sentinel, .sentinel, .sentinel, .sentinel, .sentinel, .sentinel, .sentinel] true :=
  Program.laidByTextLater_by_one 168 8 2 (by kernel_rfl) (by kernel_rfl) (by kernel_rfl) (by kernel_rfl) (by kernel_rfl) (by kernel_rfl) (fun _ _ => by kernel_rfl)
theorem noOwnUnsafe : Tryd.pinned.checked.prog.headLifts.contains "ownunsafe" = false := by kernel_rfl
theorem tie : Tryd.prog.laidByTextLater [("hearsay/fault.Arg", Rows.laid_hearsay_fault_Arg), ("hearsay/fault.Long", Rows.laid_hearsay_fault_Long), ("hearsay/fault.Spent", Rows.laid_hearsay_fault_Spent), ("hearsay/fault.Busy", Rows.laid_hearsay_fault_Busy), ("hearsay/fault.Frame", Rows.laid_hearsay_fault_Frame), ("hearsay/fault.Self", Rows.laid_hearsay_fault_Self), ("hearsay/fault.Old", Rows.laid_hearsay_fault_Old), ("hearsay/fault.Far", Rows.laid_hearsay_fault_Far)] [.sentinel, .sentinel, .sentinel, .sentinel, .sentinel, .sentinel, .sentinel, .sentinel] true :=
  Program.laidByTextLater.sub seatTie1 ["hearsay/fault.Arg", "hearsay/fault.Long", "hearsay/fault.Spent", "hearsay/fault.Busy", "hearsay/fault.Frame", "hearsay/fault.Self", "hearsay/fault.Old", "hearsay/fault.Far"] (by kernel_rfl) (by kernel_rfl)
theorem encodes_row_tie : Rows.encodesRow.laidByTextAt .later Tryd.pinned [.sentinel, .sentinel, .sentinel, .sentinel, .sentinel, .sentinel, .sentinel, .sentinel] true :=
  OpenClaim.laidByTextAt_later rfl rfl tie noOwnUnsafe
theorem tie2 : Tryd.prog.laidByTextLater [("errors.errorType", Rows.laid_errors_errorType), ("hearsay/fault.Arg", Rows.laid_hearsay_fault_Arg), ("hearsay/fault.Long", Rows.laid_hearsay_fault_Long), ("hearsay/fault.Spent", Rows.laid_hearsay_fault_Spent), ("hearsay/fault.Busy", Rows.laid_hearsay_fault_Busy), ("hearsay/fault.Frame", Rows.laid_hearsay_fault_Frame), ("hearsay/fault.Self", Rows.laid_hearsay_fault_Self), ("hearsay/fault.Old", Rows.laid_hearsay_fault_Old), ("hearsay/fault.Far", Rows.laid_hearsay_fault_Far)] [.handle, .sentinel, .sentinel, .sentinel, .sentinel, .sentinel, .sentinel, .sentinel, .sentinel] true :=
  Program.laidByTextLater.sub seatTie1 ["errors.errorType", "hearsay/fault.Arg", "hearsay/fault.Long", "hearsay/fault.Spent", "hearsay/fault.Busy", "hearsay/fault.Frame", "hearsay/fault.Self", "hearsay/fault.Old", "hearsay/fault.Far"] (by kernel_rfl) (by kernel_rfl)
theorem decodes_row_tie : Rows.decodesRow.laidByTextAt .later Tryd.pinned [.handle, .sentinel, .sentinel, .sentinel, .sentinel, .sentinel, .sentinel, .sentinel, .sentinel] true :=
  OpenClaim.laidByTextAt_later rfl rfl tie2 noOwnUnsafe
theorem reread_row_tie : Rows.rereadRow.laidByTextAt .later Tryd.pinned [.handle, .sentinel, .sentinel, .sentinel, .sentinel, .sentinel, .sentinel, .sentinel, .sentinel] true :=
  OpenClaim.laidByTextAt_later rfl rfl tie2 noOwnUnsafe
theorem encodesUpto_row_tie : Rows.encodesUptoRow.laidByTextAt .later Tryd.pinned [.sentinel, .sentinel, .sentinel, .sentinel, .sentinel, .sentinel, .sentinel, .sentinel] true :=
  OpenClaim.laidByTextAt_later rfl rfl tie noOwnUnsafe
theorem decodesUpto_row_tie : Rows.decodesUptoRow.laidByTextAt .later Tryd.pinned [.handle, .sentinel, .sentinel, .sentinel, .sentinel, .sentinel, .sentinel, .sentinel, .sentinel] true :=
  OpenClaim.laidByTextAt_later rfl rfl tie2 noOwnUnsafe
theorem rereadUpto_row_tie : Rows.rereadUptoRow.laidByTextAt .later Tryd.pinned [.handle, .sentinel, .sentinel, .sentinel, .sentinel, .sentinel, .sentinel, .sentinel, .sentinel] true :=
  OpenClaim.laidByTextAt_later rfl rfl tie2 noOwnUnsafe
end Go.Proofs.YtabecbjfamphbaaDoor
