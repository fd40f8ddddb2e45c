/-
  NARROWER THAN 'FOR EVERY INPUT', by the rows' own cells (each row's printed sentence says how): Encodes: laid · Decodes: laid · Reread: laid.
  DERIVED. THE GIVEN ROWS OF THIS SEAT. 3 by the template 'for every input the law returns true; each argument reads behind the call as it read before'; 0 by the template 'total and deterministic' (their statements: YtabecbjfamphbaaDoorTotals.lean).
  GIVEN WITH THE SEED: the statements are not yours to turn. If you find one false, say at which input.
  Laid BY PROGRAM, IN A SANDBOX (cutbox-rows.mjs): the forced cells as the released guide's own fill.sh prints them over the translation 25ebd6948e362c09… (all of the seat's roots in one cut). By AI agents, Wed Nov 11 2026. No macro, syntax, notation, axiom, sorry.
-/
import Derived.Test.YtabecbjfamphbaaDoorChecked
import GoSem.Claim
import GoSem.ClaimJoined
import GoSem.ClaimMapViews
import Derived.JoinedTies
import Derived.KernelRfl
namespace Go.Proofs.YtabecbjfamphbaaDoor
/- THE CELL 'sum', in the pinned program and in every row, IS THE sha256 OF THE DUMP (.gsa) THAT YtabecbjfamphbaaDoorProg.lean LOADS. Nothing in Lean hashes anything: it is a label: what it is worth is what the hold of that sum in a sandbox is worth. -/
noncomputable def Tryd.pinned : Pinned := { name := "ytabecbjfamphbaadoor", sum := "25ebd6948e362c098709a13261e8185cee874a989a2f932094659f4d1a23458b", checked := Tryd.checked }
namespace Rows
def none {H : Type} : Left H := { results := [], args := [] }

/- WHAT THE LISTED PACKAGE-LEVEL VARIABLES READ AS WHEN THE CALL BEGINS. Each datum BY PROGRAM (the guide's laid-datum.mjs) off the statement by which the dump's own 'gosem.cut.vars' lays the variable. In a bare row this is a premise. The card (YtabecbjfamphbaaDoorCards.lean) ties it to the program's text. -/
def laid_hearsay_fault_Arg {H : Type} : DataW H := .iface "*errors.errorString" (.ptr (.agg [.lit (.string [97, 110, 32, 97, 114, 103, 117, 109, 101, 110, 116, 32, 116, 104, 97, 116, 32, 109, 97, 121, 32, 110, 111, 116, 32, 98, 101])]))
def laid_hearsay_fault_Long {H : Type} : DataW H := .iface "*errors.errorString" (.ptr (.agg [.lit (.string [97, 32, 116, 101, 120, 116, 32, 97, 98, 111, 118, 101, 32, 105, 116, 115, 32, 98, 111, 117, 110, 100])]))
def laid_hearsay_fault_Spent {H : Type} : DataW H := .iface "*errors.errorString" (.ptr (.agg [.lit (.string [110, 111, 32, 110, 117, 109, 98, 101, 114, 32, 105, 115, 32, 108, 101, 102, 116])]))
def laid_hearsay_fault_Busy {H : Type} : DataW H := .iface "*errors.errorString" (.ptr (.agg [.lit (.string [116, 111, 111, 32, 109, 97, 110, 121, 32, 119, 111, 114, 100, 115, 32, 97, 114, 101, 32, 117, 110, 100, 101, 114, 32, 119, 97, 121])]))
def laid_hearsay_fault_Frame {H : Type} : DataW H := .iface "*errors.errorString" (.ptr (.agg [.lit (.string [110, 111, 32, 102, 114, 97, 109, 101])]))
def laid_hearsay_fault_Self {H : Type} : DataW H := .iface "*errors.errorString" (.ptr (.agg [.lit (.string [97, 32, 102, 114, 97, 109, 101, 32, 116, 104, 97, 116, 32, 116, 104, 101, 32, 110, 111, 100, 101, 32, 105, 116, 115, 101, 108, 102, 32, 109, 105, 103, 104, 116, 32, 104, 97, 118, 101, 32, 115, 101, 110, 116])]))
def laid_hearsay_fault_Old {H : Type} : DataW H := .iface "*errors.errorString" (.ptr (.agg [.lit (.string [97, 32, 119, 111, 114, 100, 32, 116, 104, 97, 116, 32, 116, 104, 101, 32, 110, 111, 100, 101, 32, 104, 97, 115, 44, 32, 111, 114, 32, 104, 97, 100])]))
def laid_hearsay_fault_Far {H : Type} : DataW H := .iface "*errors.errorString" (.ptr (.agg [.lit (.string [97, 32, 119, 111, 114, 100, 32, 116, 111, 111, 32, 102, 97, 114, 32, 97, 104, 101, 97, 100])]))
def laid_errors_errorType {H : Type} : DataW H := .iface "internal/reflectlite.rtype" (.agg [.ptr (.lit (.string [101, 114, 114, 111, 114]))])

/-- 'hearsaylaw.Encodes': WHATEVER THE INPUT: true; the input reads as it did. -/
def encodesSpec : ChangeSpec := { name := "encodes", fn := fun _ => fun
  | [d1, d2, d3] => { results := [.lit (.bool true)], args := [d1, d2, d3] }
  | _ => none }
def encodesRow : OpenClaim := { program := "ytabecbjfamphbaadoor", sum := "25ebd6948e362c098709a13261e8185cee874a989a2f932094659f4d1a23458b", func := "hearsay/hearsaylaw.Encodes", spec := "encodes", inPlace := ["internal/reflectlite.TypeOf"], unfollowed := true, recurses := true, named := ["hearsay/fault.Arg", "hearsay/fault.Long", "hearsay/fault.Spent", "hearsay/fault.Busy", "hearsay/fault.Frame", "hearsay/fault.Self", "hearsay/fault.Old", "hearsay/fault.Far"], apart := false, laid := [("hearsay/fault.Arg", laid_hearsay_fault_Arg), ("hearsay/fault.Long", laid_hearsay_fault_Long), ("hearsay/fault.Spent", laid_hearsay_fault_Spent), ("hearsay/fault.Busy", laid_hearsay_fault_Busy), ("hearsay/fault.Frame", laid_hearsay_fault_Frame), ("hearsay/fault.Self", laid_hearsay_fault_Self), ("hearsay/fault.Old", laid_hearsay_fault_Old), ("hearsay/fault.Far", laid_hearsay_fault_Far)] }
def EncodesSaid : Prop := encodesRow.holds Tryd.pinned (OpenSpec.ofChange encodesSpec)

/-- ITS FALSE NEIGHBOUR: 'it returns false'. Refute it at one input. -/
def encodesWrong : ChangeSpec := { name := "encodes", fn := fun _ => fun
  | [d1, d2, d3] => { results := [.lit (.bool false)], args := [d1, d2, d3] }
  | _ => none }
def EncodesWrongFalsely : Prop := encodesRow.holds Tryd.pinned (OpenSpec.ofChange encodesWrong)

/-- 'hearsaylaw.Decodes': WHATEVER THE INPUT: true; the input reads as it did. -/
def decodesSpec : ChangeSpec := { name := "decodes", fn := fun _ => fun
  | [d1, d2, d3] => { results := [.lit (.bool true)], args := [d1, d2, d3] }
  | _ => none }
def decodesRow : OpenClaim := { program := "ytabecbjfamphbaadoor", sum := "25ebd6948e362c098709a13261e8185cee874a989a2f932094659f4d1a23458b", func := "hearsay/hearsaylaw.Decodes", spec := "decodes", inPlace := ["internal/reflectlite.ValueOf", "(internal/reflectlite.Value).Type", "(internal/reflectlite.Value).IsNil", "internal/reflectlite.TypeOf", "(internal/reflectlite.Value).Elem", "(internal/reflectlite.Value).Set"], unfollowed := true, recurses := true, named := ["hearsay/fault.Arg", "hearsay/fault.Frame", "errors.errorType", "hearsay/fault.Long", "hearsay/fault.Spent", "hearsay/fault.Busy", "hearsay/fault.Self", "hearsay/fault.Old", "hearsay/fault.Far"], apart := false, laid := [("errors.errorType", laid_errors_errorType), ("hearsay/fault.Arg", laid_hearsay_fault_Arg), ("hearsay/fault.Long", laid_hearsay_fault_Long), ("hearsay/fault.Spent", laid_hearsay_fault_Spent), ("hearsay/fault.Busy", laid_hearsay_fault_Busy), ("hearsay/fault.Frame", laid_hearsay_fault_Frame), ("hearsay/fault.Self", laid_hearsay_fault_Self), ("hearsay/fault.Old", laid_hearsay_fault_Old), ("hearsay/fault.Far", laid_hearsay_fault_Far)] }
def DecodesSaid : Prop := decodesRow.holds Tryd.pinned (OpenSpec.ofChange decodesSpec)

/-- ITS FALSE NEIGHBOUR: 'it returns false'. Refute it at one input. -/
def decodesWrong : ChangeSpec := { name := "decodes", fn := fun _ => fun
  | [d1, d2, d3] => { results := [.lit (.bool false)], args := [d1, d2, d3] }
  | _ => none }
def DecodesWrongFalsely : Prop := decodesRow.holds Tryd.pinned (OpenSpec.ofChange decodesWrong)

/-- 'hearsaykeep.Reread': WHATEVER THE INPUT: true; the input reads as it did. -/
def rereadSpec : ChangeSpec := { name := "reread", fn := fun _ => fun
  | [d1, d2, d3, d4, d5] => { results := [.lit (.bool true)], args := [d1, d2, d3, d4, d5] }
  | _ => none }
def rereadRow : OpenClaim := { program := "ytabecbjfamphbaadoor", sum := "25ebd6948e362c098709a13261e8185cee874a989a2f932094659f4d1a23458b", func := "hearsay/hearsaykeep.Reread", spec := "reread", inPlace := ["internal/reflectlite.TypeOf", "internal/reflectlite.ValueOf", "(internal/reflectlite.Value).Type", "(internal/reflectlite.Value).IsNil", "(internal/reflectlite.Value).Elem", "(internal/reflectlite.Value).Set"], unfollowed := true, recurses := true, named := ["hearsay/fault.Arg", "hearsay/fault.Frame", "hearsay/fault.Long", "hearsay/fault.Spent", "hearsay/fault.Busy", "hearsay/fault.Self", "hearsay/fault.Old", "hearsay/fault.Far", "errors.errorType"], apart := false, laid := [("errors.errorType", laid_errors_errorType), ("hearsay/fault.Arg", laid_hearsay_fault_Arg), ("hearsay/fault.Long", laid_hearsay_fault_Long), ("hearsay/fault.Spent", laid_hearsay_fault_Spent), ("hearsay/fault.Busy", laid_hearsay_fault_Busy), ("hearsay/fault.Frame", laid_hearsay_fault_Frame), ("hearsay/fault.Self", laid_hearsay_fault_Self), ("hearsay/fault.Old", laid_hearsay_fault_Old), ("hearsay/fault.Far", laid_hearsay_fault_Far)] }
def RereadSaid : Prop := rereadRow.holds Tryd.pinned (OpenSpec.ofChange rereadSpec)

/-- ITS FALSE NEIGHBOUR: 'it returns false'. Refute it at one input. -/
def rereadWrong : ChangeSpec := { name := "reread", fn := fun _ => fun
  | [d1, d2, d3, d4, d5] => { results := [.lit (.bool false)], args := [d1, d2, d3, d4, d5] }
  | _ => none }
def RereadWrongFalsely : Prop := rereadRow.holds Tryd.pinned (OpenSpec.ofChange rereadWrong)

/- THE SECOND FORM. 'bulk': how many values and letters a reading holds, each counted each time it is reached (what is shared counts as often as it is met; a slice's spare places count too). A statement '..UptoSaid' is the law's where the arguments, and the package variables that the reading takes, are together of bulk at most 1048576: NARROWER than '..Said'. Prove '..Said' where nothing that the law and all that it calls make is longer than what came in: it says more and counts as full. Else prove '..UptoSaid'. A law counts once. -/
mutual
def uptoBulk {H : Type} : DataW H → Nat
  | .lit (.string bytes) => bytes.length + 1
  | .lit _ => 1
  | .nil => 1
  | .ptr d => uptoBulk d + 1
  | .slice elems spare => uptoBulkAll elems + uptoBulkAll spare + 1
  | .agg parts => uptoBulkAll parts + 1
  | .iface _ d => uptoBulk d + 1
  | .map entries => uptoBulkEntries entries + 1
  | .held _ => 1
def uptoBulkAll {H : Type} : List (DataW H) → Nat
  | [] => 0
  | d :: r => uptoBulk d + uptoBulkAll r
def uptoBulkEntries {H : Type} : List (Lit × DataW H) → Nat
  | [] => 0
  | x :: r => uptoBulkEntry x + uptoBulkEntries r
def uptoBulkEntry {H : Type} : Lit × DataW H → Nat
  | (.string bytes, d) => bytes.length + uptoBulk d + 1
  | (_, d) => uptoBulk d + 1
 end
def uptoSmall : (H : Type) → List (DataW H) → Bool := fun _ ds => decide (uptoBulkAll ds ≤ 1048576)
def OpenSpec.upto (s : _root_.Go.ChangeSpec) : _root_.Go.OpenSpec := { _root_.Go.OpenSpec.ofChange s with cond := some uptoSmall }

/-- 'hearsaylaw.Encodes', WHERE WHAT IT READS IS OF BULK AT MOST 1048576: true; the input reads as it did. -/
def encodesUptoRow : OpenClaim := { program := "ytabecbjfamphbaadoor", sum := "25ebd6948e362c098709a13261e8185cee874a989a2f932094659f4d1a23458b", func := "hearsay/hearsaylaw.Encodes", spec := "encodes", inPlace := ["internal/reflectlite.TypeOf"], unfollowed := true, recurses := true, named := ["hearsay/fault.Arg", "hearsay/fault.Long", "hearsay/fault.Spent", "hearsay/fault.Busy", "hearsay/fault.Frame", "hearsay/fault.Self", "hearsay/fault.Old", "hearsay/fault.Far"], apart := false, laid := [("hearsay/fault.Arg", laid_hearsay_fault_Arg), ("hearsay/fault.Long", laid_hearsay_fault_Long), ("hearsay/fault.Spent", laid_hearsay_fault_Spent), ("hearsay/fault.Busy", laid_hearsay_fault_Busy), ("hearsay/fault.Frame", laid_hearsay_fault_Frame), ("hearsay/fault.Self", laid_hearsay_fault_Self), ("hearsay/fault.Old", laid_hearsay_fault_Old), ("hearsay/fault.Far", laid_hearsay_fault_Far)], narrowed := true }
def EncodesUptoSaid : Prop := encodesUptoRow.holds Tryd.pinned (OpenSpec.upto encodesSpec)

/-- 'hearsaylaw.Decodes', WHERE WHAT IT READS IS OF BULK AT MOST 1048576: true; the input reads as it did. -/
def decodesUptoRow : OpenClaim := { program := "ytabecbjfamphbaadoor", sum := "25ebd6948e362c098709a13261e8185cee874a989a2f932094659f4d1a23458b", func := "hearsay/hearsaylaw.Decodes", spec := "decodes", inPlace := ["internal/reflectlite.ValueOf", "(internal/reflectlite.Value).Type", "(internal/reflectlite.Value).IsNil", "internal/reflectlite.TypeOf", "(internal/reflectlite.Value).Elem", "(internal/reflectlite.Value).Set"], unfollowed := true, recurses := true, named := ["hearsay/fault.Arg", "hearsay/fault.Frame", "errors.errorType", "hearsay/fault.Long", "hearsay/fault.Spent", "hearsay/fault.Busy", "hearsay/fault.Self", "hearsay/fault.Old", "hearsay/fault.Far"], apart := false, laid := [("errors.errorType", laid_errors_errorType), ("hearsay/fault.Arg", laid_hearsay_fault_Arg), ("hearsay/fault.Long", laid_hearsay_fault_Long), ("hearsay/fault.Spent", laid_hearsay_fault_Spent), ("hearsay/fault.Busy", laid_hearsay_fault_Busy), ("hearsay/fault.Frame", laid_hearsay_fault_Frame), ("hearsay/fault.Self", laid_hearsay_fault_Self), ("hearsay/fault.Old", laid_hearsay_fault_Old), ("hearsay/fault.Far", laid_hearsay_fault_Far)], narrowed := true }
def DecodesUptoSaid : Prop := decodesUptoRow.holds Tryd.pinned (OpenSpec.upto decodesSpec)

/-- 'hearsaykeep.Reread', WHERE WHAT IT READS IS OF BULK AT MOST 1048576: true; the input reads as it did. -/
def rereadUptoRow : OpenClaim := { program := "ytabecbjfamphbaadoor", sum := "25ebd6948e362c098709a13261e8185cee874a989a2f932094659f4d1a23458b", func := "hearsay/hearsaykeep.Reread", spec := "reread", inPlace := ["internal/reflectlite.TypeOf", "internal/reflectlite.ValueOf", "(internal/reflectlite.Value).Type", "(internal/reflectlite.Value).IsNil", "(internal/reflectlite.Value).Elem", "(internal/reflectlite.Value).Set"], unfollowed := true, recurses := true, named := ["hearsay/fault.Arg", "hearsay/fault.Frame", "hearsay/fault.Long", "hearsay/fault.Spent", "hearsay/fault.Busy", "hearsay/fault.Self", "hearsay/fault.Old", "hearsay/fault.Far", "errors.errorType"], apart := false, laid := [("errors.errorType", laid_errors_errorType), ("hearsay/fault.Arg", laid_hearsay_fault_Arg), ("hearsay/fault.Long", laid_hearsay_fault_Long), ("hearsay/fault.Spent", laid_hearsay_fault_Spent), ("hearsay/fault.Busy", laid_hearsay_fault_Busy), ("hearsay/fault.Frame", laid_hearsay_fault_Frame), ("hearsay/fault.Self", laid_hearsay_fault_Self), ("hearsay/fault.Old", laid_hearsay_fault_Old), ("hearsay/fault.Far", laid_hearsay_fault_Far)], narrowed := true }
def RereadUptoSaid : Prop := rereadUptoRow.holds Tryd.pinned (OpenSpec.upto rereadSpec)

end Rows
end Go.Proofs.YtabecbjfamphbaaDoor
