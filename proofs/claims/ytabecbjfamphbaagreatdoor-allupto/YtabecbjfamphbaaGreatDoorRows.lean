/-
  NARROWER THAN 'FOR EVERY INPUT', by the rows' own cells (each row's printed sentence says how): Nodes: laid · Nets: laid · Causal: laid · Settles: laid · Freed: laid · Bounded: laid · Carried: laid · All: laid.
  DERIVED. THE GIVEN ROWS OF THIS SEAT. 8 by the template 'for every input the law returns true; each argument reads behind the call as it read before'; 0 by the template 'total and deterministic' (their statements: YtabecbjfamphbaaGreatDoorTotals.lean).
  GIVEN WITH THE SEED: the statements are not yours to turn. If you find one false, say at which input.
  Laid BY PROGRAM, IN A SANDBOX (cutbox-rows.mjs): the forced cells as the released guide's own fill.sh prints them over the translation a9229df734c4cfe1… (all of the seat's roots in one cut). By AI agents, Wed Nov 11 2026. No macro, syntax, notation, axiom, sorry.
-/
import Derived.Test.YtabecbjfamphbaaGreatDoorChecked
import GoSem.Claim
import GoSem.ClaimJoined
import GoSem.ClaimMapViews
import Derived.JoinedTies
import Derived.KernelRfl
namespace Go.Proofs.YtabecbjfamphbaaGreatDoor
/- THE CELL 'sum', in the pinned program and in every row, IS THE sha256 OF THE DUMP (.gsa) THAT YtabecbjfamphbaaGreatDoorProg.lean LOADS. Nothing in Lean hashes anything: it is a label: what it is worth is what the hold of that sum in a sandbox is worth. -/
noncomputable def Tryz.pinned : Pinned := { name := "ytabecbjfamphbaagreatdoor", sum := "a9229df734c4cfe1c557e426c42b138a7f2b3b16af2f4407912113a41eea4359", checked := Tryz.checked }
namespace Rows
def none {H : Type} : Left H := { results := [], args := [] }

/- WHAT THE LISTED PACKAGE-LEVEL VARIABLES READ AS WHEN THE CALL BEGINS. Each datum BY PROGRAM (the guide's laid-datum.mjs) off the statement by which the dump's own 'gosem.cut.vars' lays the variable. In a bare row this is a premise. The card (YtabecbjfamphbaaGreatDoorCards.lean) ties it to the program's text. -/
def laid_errors_errorType {H : Type} : DataW H := .iface "internal/reflectlite.rtype" (.agg [.ptr (.lit (.string [101, 114, 114, 111, 114]))])
def laid_hearsay_fault_Arg {H : Type} : DataW H := .iface "*errors.errorString" (.ptr (.agg [.lit (.string [97, 110, 32, 97, 114, 103, 117, 109, 101, 110, 116, 32, 116, 104, 97, 116, 32, 109, 97, 121, 32, 110, 111, 116, 32, 98, 101])]))
def laid_hearsay_fault_Long {H : Type} : DataW H := .iface "*errors.errorString" (.ptr (.agg [.lit (.string [97, 32, 116, 101, 120, 116, 32, 97, 98, 111, 118, 101, 32, 105, 116, 115, 32, 98, 111, 117, 110, 100])]))
def laid_hearsay_fault_Spent {H : Type} : DataW H := .iface "*errors.errorString" (.ptr (.agg [.lit (.string [110, 111, 32, 110, 117, 109, 98, 101, 114, 32, 105, 115, 32, 108, 101, 102, 116])]))
def laid_hearsay_fault_Busy {H : Type} : DataW H := .iface "*errors.errorString" (.ptr (.agg [.lit (.string [116, 111, 111, 32, 109, 97, 110, 121, 32, 119, 111, 114, 100, 115, 32, 97, 114, 101, 32, 117, 110, 100, 101, 114, 32, 119, 97, 121])]))
def laid_hearsay_fault_Frame {H : Type} : DataW H := .iface "*errors.errorString" (.ptr (.agg [.lit (.string [110, 111, 32, 102, 114, 97, 109, 101])]))
def laid_hearsay_fault_Self {H : Type} : DataW H := .iface "*errors.errorString" (.ptr (.agg [.lit (.string [97, 32, 102, 114, 97, 109, 101, 32, 116, 104, 97, 116, 32, 116, 104, 101, 32, 110, 111, 100, 101, 32, 105, 116, 115, 101, 108, 102, 32, 109, 105, 103, 104, 116, 32, 104, 97, 118, 101, 32, 115, 101, 110, 116])]))
def laid_hearsay_fault_Old {H : Type} : DataW H := .iface "*errors.errorString" (.ptr (.agg [.lit (.string [97, 32, 119, 111, 114, 100, 32, 116, 104, 97, 116, 32, 116, 104, 101, 32, 110, 111, 100, 101, 32, 104, 97, 115, 44, 32, 111, 114, 32, 104, 97, 100])]))
def laid_hearsay_fault_Far {H : Type} : DataW H := .iface "*errors.errorString" (.ptr (.agg [.lit (.string [97, 32, 119, 111, 114, 100, 32, 116, 111, 111, 32, 102, 97, 114, 32, 97, 104, 101, 97, 100])]))

/-- 'hearsaylaw.Nodes': WHATEVER THE INPUT: true; the input reads as it did. -/
def nodesSpec : ChangeSpec := { name := "nodes", fn := fun _ => fun
  | [d] => { results := [.lit (.bool true)], args := [d] }
  | _ => none }
def nodesRow : OpenClaim := { program := "ytabecbjfamphbaagreatdoor", sum := "a9229df734c4cfe1c557e426c42b138a7f2b3b16af2f4407912113a41eea4359", func := "hearsay/hearsaylaw.Nodes", spec := "nodes", inPlace := ["internal/reflectlite.TypeOf", "internal/reflectlite.ValueOf", "(internal/reflectlite.Value).Type", "(internal/reflectlite.Value).IsNil", "(internal/reflectlite.Value).Elem", "(internal/reflectlite.Value).Set", "slices.overlaps[hearsay/api.Frame]"], unfollowed := true, recurses := true, named := ["hearsay/fault.Arg", "hearsay/fault.Long", "hearsay/fault.Spent", "hearsay/fault.Busy", "hearsay/fault.Frame", "hearsay/fault.Self", "hearsay/fault.Old", "hearsay/fault.Far", "errors.errorType"], apart := false, laid := [("errors.errorType", laid_errors_errorType), ("hearsay/fault.Arg", laid_hearsay_fault_Arg), ("hearsay/fault.Long", laid_hearsay_fault_Long), ("hearsay/fault.Spent", laid_hearsay_fault_Spent), ("hearsay/fault.Busy", laid_hearsay_fault_Busy), ("hearsay/fault.Frame", laid_hearsay_fault_Frame), ("hearsay/fault.Self", laid_hearsay_fault_Self), ("hearsay/fault.Old", laid_hearsay_fault_Old), ("hearsay/fault.Far", laid_hearsay_fault_Far)] }
def NodesSaid : Prop := nodesRow.holds Tryz.pinned (OpenSpec.ofChange nodesSpec)

/-- ITS FALSE NEIGHBOUR: 'it returns false'. Refute it at one input. -/
def nodesWrong : ChangeSpec := { name := "nodes", fn := fun _ => fun
  | [d] => { results := [.lit (.bool false)], args := [d] }
  | _ => none }
def NodesWrongFalsely : Prop := nodesRow.holds Tryz.pinned (OpenSpec.ofChange nodesWrong)

/-- 'hearsaylaw.Nets': WHATEVER THE INPUT: true; the input reads as it did. -/
def netsSpec : ChangeSpec := { name := "nets", fn := fun _ => fun
  | [d] => { results := [.lit (.bool true)], args := [d] }
  | _ => none }
def netsRow : OpenClaim := { program := "ytabecbjfamphbaagreatdoor", sum := "a9229df734c4cfe1c557e426c42b138a7f2b3b16af2f4407912113a41eea4359", func := "hearsay/hearsaylaw.Nets", spec := "nets", inPlace := ["internal/reflectlite.TypeOf", "internal/reflectlite.ValueOf", "(internal/reflectlite.Value).Type", "(internal/reflectlite.Value).IsNil", "(internal/reflectlite.Value).Elem", "(internal/reflectlite.Value).Set", "slices.overlaps[hearsay/api.Frame]"], unfollowed := true, recurses := true, named := ["hearsay/fault.Arg", "hearsay/fault.Long", "hearsay/fault.Spent", "hearsay/fault.Busy", "hearsay/fault.Frame", "hearsay/fault.Self", "hearsay/fault.Old", "hearsay/fault.Far", "errors.errorType"], apart := false, laid := [("errors.errorType", laid_errors_errorType), ("hearsay/fault.Arg", laid_hearsay_fault_Arg), ("hearsay/fault.Long", laid_hearsay_fault_Long), ("hearsay/fault.Spent", laid_hearsay_fault_Spent), ("hearsay/fault.Busy", laid_hearsay_fault_Busy), ("hearsay/fault.Frame", laid_hearsay_fault_Frame), ("hearsay/fault.Self", laid_hearsay_fault_Self), ("hearsay/fault.Old", laid_hearsay_fault_Old), ("hearsay/fault.Far", laid_hearsay_fault_Far)] }
def NetsSaid : Prop := netsRow.holds Tryz.pinned (OpenSpec.ofChange netsSpec)

/-- ITS FALSE NEIGHBOUR: 'it returns false'. Refute it at one input. -/
def netsWrong : ChangeSpec := { name := "nets", fn := fun _ => fun
  | [d] => { results := [.lit (.bool false)], args := [d] }
  | _ => none }
def NetsWrongFalsely : Prop := netsRow.holds Tryz.pinned (OpenSpec.ofChange netsWrong)

/-- 'hearsaykeep.Causal': WHATEVER THE INPUT: true; the input reads as it did. -/
def causalSpec : ChangeSpec := { name := "causal", fn := fun _ => fun
  | [d1, d2] => { results := [.lit (.bool true)], args := [d1, d2] }
  | _ => none }
def causalRow : OpenClaim := { program := "ytabecbjfamphbaagreatdoor", sum := "a9229df734c4cfe1c557e426c42b138a7f2b3b16af2f4407912113a41eea4359", func := "hearsay/hearsaykeep.Causal", spec := "causal", inPlace := ["internal/reflectlite.TypeOf", "slices.overlaps[hearsay/api.Frame]"], unfollowed := true, recurses := true, named := ["hearsay/fault.Arg", "hearsay/fault.Long", "hearsay/fault.Spent", "hearsay/fault.Busy", "hearsay/fault.Frame", "hearsay/fault.Self", "hearsay/fault.Old", "hearsay/fault.Far"], apart := false, laid := [("hearsay/fault.Arg", laid_hearsay_fault_Arg), ("hearsay/fault.Long", laid_hearsay_fault_Long), ("hearsay/fault.Spent", laid_hearsay_fault_Spent), ("hearsay/fault.Busy", laid_hearsay_fault_Busy), ("hearsay/fault.Frame", laid_hearsay_fault_Frame), ("hearsay/fault.Self", laid_hearsay_fault_Self), ("hearsay/fault.Old", laid_hearsay_fault_Old), ("hearsay/fault.Far", laid_hearsay_fault_Far)] }
def CausalSaid : Prop := causalRow.holds Tryz.pinned (OpenSpec.ofChange causalSpec)

/-- ITS FALSE NEIGHBOUR: 'it returns false'. Refute it at one input. -/
def causalWrong : ChangeSpec := { name := "causal", fn := fun _ => fun
  | [d1, d2] => { results := [.lit (.bool false)], args := [d1, d2] }
  | _ => none }
def CausalWrongFalsely : Prop := causalRow.holds Tryz.pinned (OpenSpec.ofChange causalWrong)

/-- 'hearsaykeep.Settles': WHATEVER THE INPUT: true; the input reads as it did. -/
def settlesSpec : ChangeSpec := { name := "settles", fn := fun _ => fun
  | [d1, d2, d3] => { results := [.lit (.bool true)], args := [d1, d2, d3] }
  | _ => none }
def settlesRow : OpenClaim := { program := "ytabecbjfamphbaagreatdoor", sum := "a9229df734c4cfe1c557e426c42b138a7f2b3b16af2f4407912113a41eea4359", func := "hearsay/hearsaykeep.Settles", spec := "settles", inPlace := ["internal/reflectlite.TypeOf", "slices.overlaps[hearsay/api.Frame]"], unfollowed := true, recurses := true, named := ["hearsay/fault.Arg", "hearsay/fault.Long", "hearsay/fault.Spent", "hearsay/fault.Busy", "hearsay/fault.Frame", "hearsay/fault.Self", "hearsay/fault.Old", "hearsay/fault.Far"], apart := false, laid := [("hearsay/fault.Arg", laid_hearsay_fault_Arg), ("hearsay/fault.Long", laid_hearsay_fault_Long), ("hearsay/fault.Spent", laid_hearsay_fault_Spent), ("hearsay/fault.Busy", laid_hearsay_fault_Busy), ("hearsay/fault.Frame", laid_hearsay_fault_Frame), ("hearsay/fault.Self", laid_hearsay_fault_Self), ("hearsay/fault.Old", laid_hearsay_fault_Old), ("hearsay/fault.Far", laid_hearsay_fault_Far)] }
def SettlesSaid : Prop := settlesRow.holds Tryz.pinned (OpenSpec.ofChange settlesSpec)

/-- ITS FALSE NEIGHBOUR: 'it returns false'. Refute it at one input. -/
def settlesWrong : ChangeSpec := { name := "settles", fn := fun _ => fun
  | [d1, d2, d3] => { results := [.lit (.bool false)], args := [d1, d2, d3] }
  | _ => none }
def SettlesWrongFalsely : Prop := settlesRow.holds Tryz.pinned (OpenSpec.ofChange settlesWrong)

/-- 'hearsaykeep.Freed': WHATEVER THE INPUT: true; the input reads as it did. -/
def freedSpec : ChangeSpec := { name := "freed", fn := fun _ => fun
  | [d1, d2] => { results := [.lit (.bool true)], args := [d1, d2] }
  | _ => none }
def freedRow : OpenClaim := { program := "ytabecbjfamphbaagreatdoor", sum := "a9229df734c4cfe1c557e426c42b138a7f2b3b16af2f4407912113a41eea4359", func := "hearsay/hearsaykeep.Freed", spec := "freed", inPlace := ["internal/reflectlite.TypeOf", "slices.overlaps[hearsay/api.Frame]"], unfollowed := true, recurses := true, named := ["hearsay/fault.Arg", "hearsay/fault.Long", "hearsay/fault.Spent", "hearsay/fault.Busy", "hearsay/fault.Frame", "hearsay/fault.Self", "hearsay/fault.Old", "hearsay/fault.Far"], apart := false, laid := [("hearsay/fault.Arg", laid_hearsay_fault_Arg), ("hearsay/fault.Long", laid_hearsay_fault_Long), ("hearsay/fault.Spent", laid_hearsay_fault_Spent), ("hearsay/fault.Busy", laid_hearsay_fault_Busy), ("hearsay/fault.Frame", laid_hearsay_fault_Frame), ("hearsay/fault.Self", laid_hearsay_fault_Self), ("hearsay/fault.Old", laid_hearsay_fault_Old), ("hearsay/fault.Far", laid_hearsay_fault_Far)] }
def FreedSaid : Prop := freedRow.holds Tryz.pinned (OpenSpec.ofChange freedSpec)

/-- ITS FALSE NEIGHBOUR: 'it returns false'. Refute it at one input. -/
def freedWrong : ChangeSpec := { name := "freed", fn := fun _ => fun
  | [d1, d2] => { results := [.lit (.bool false)], args := [d1, d2] }
  | _ => none }
def FreedWrongFalsely : Prop := freedRow.holds Tryz.pinned (OpenSpec.ofChange freedWrong)

/-- 'hearsaykeep.Bounded': WHATEVER THE INPUT: true; the input reads as it did. -/
def boundedSpec : ChangeSpec := { name := "bounded", fn := fun _ => fun
  | [d1, d2] => { results := [.lit (.bool true)], args := [d1, d2] }
  | _ => none }
def boundedRow : OpenClaim := { program := "ytabecbjfamphbaagreatdoor", sum := "a9229df734c4cfe1c557e426c42b138a7f2b3b16af2f4407912113a41eea4359", func := "hearsay/hearsaykeep.Bounded", spec := "bounded", inPlace := ["internal/reflectlite.TypeOf", "slices.overlaps[hearsay/api.Frame]", "internal/reflectlite.ValueOf", "(internal/reflectlite.Value).Type", "(internal/reflectlite.Value).IsNil", "(internal/reflectlite.Value).Elem", "(internal/reflectlite.Value).Set"], unfollowed := true, recurses := true, named := ["hearsay/fault.Arg", "hearsay/fault.Long", "hearsay/fault.Spent", "hearsay/fault.Busy", "hearsay/fault.Frame", "hearsay/fault.Self", "hearsay/fault.Old", "hearsay/fault.Far", "errors.errorType"], apart := false, laid := [("errors.errorType", laid_errors_errorType), ("hearsay/fault.Arg", laid_hearsay_fault_Arg), ("hearsay/fault.Long", laid_hearsay_fault_Long), ("hearsay/fault.Spent", laid_hearsay_fault_Spent), ("hearsay/fault.Busy", laid_hearsay_fault_Busy), ("hearsay/fault.Frame", laid_hearsay_fault_Frame), ("hearsay/fault.Self", laid_hearsay_fault_Self), ("hearsay/fault.Old", laid_hearsay_fault_Old), ("hearsay/fault.Far", laid_hearsay_fault_Far)] }
def BoundedSaid : Prop := boundedRow.holds Tryz.pinned (OpenSpec.ofChange boundedSpec)

/-- ITS FALSE NEIGHBOUR: 'it returns false'. Refute it at one input. -/
def boundedWrong : ChangeSpec := { name := "bounded", fn := fun _ => fun
  | [d1, d2] => { results := [.lit (.bool false)], args := [d1, d2] }
  | _ => none }
def BoundedWrongFalsely : Prop := boundedRow.holds Tryz.pinned (OpenSpec.ofChange boundedWrong)

/-- 'hearsaykeep.Carried': WHATEVER THE INPUT: true; the input reads as it did. -/
def carriedSpec : ChangeSpec := { name := "carried", fn := fun _ => fun
  | [d1, d2] => { results := [.lit (.bool true)], args := [d1, d2] }
  | _ => none }
def carriedRow : OpenClaim := { program := "ytabecbjfamphbaagreatdoor", sum := "a9229df734c4cfe1c557e426c42b138a7f2b3b16af2f4407912113a41eea4359", func := "hearsay/hearsaykeep.Carried", spec := "carried", inPlace := ["internal/reflectlite.TypeOf", "slices.overlaps[hearsay/api.Frame]"], unfollowed := true, recurses := true, named := ["hearsay/fault.Arg", "hearsay/fault.Long", "hearsay/fault.Spent", "hearsay/fault.Busy", "hearsay/fault.Frame", "hearsay/fault.Self", "hearsay/fault.Old", "hearsay/fault.Far"], apart := false, laid := [("hearsay/fault.Arg", laid_hearsay_fault_Arg), ("hearsay/fault.Long", laid_hearsay_fault_Long), ("hearsay/fault.Spent", laid_hearsay_fault_Spent), ("hearsay/fault.Busy", laid_hearsay_fault_Busy), ("hearsay/fault.Frame", laid_hearsay_fault_Frame), ("hearsay/fault.Self", laid_hearsay_fault_Self), ("hearsay/fault.Old", laid_hearsay_fault_Old), ("hearsay/fault.Far", laid_hearsay_fault_Far)] }
def CarriedSaid : Prop := carriedRow.holds Tryz.pinned (OpenSpec.ofChange carriedSpec)

/-- ITS FALSE NEIGHBOUR: 'it returns false'. Refute it at one input. -/
def carriedWrong : ChangeSpec := { name := "carried", fn := fun _ => fun
  | [d1, d2] => { results := [.lit (.bool false)], args := [d1, d2] }
  | _ => none }
def CarriedWrongFalsely : Prop := carriedRow.holds Tryz.pinned (OpenSpec.ofChange carriedWrong)

/-- 'hearsaylaw.All': WHATEVER THE INPUT: true; the input reads as it did. -/
def allSpec : ChangeSpec := { name := "all", fn := fun _ => fun
  | [d] => { results := [.lit (.bool true)], args := [d] }
  | _ => none }
def allRow : OpenClaim := { program := "ytabecbjfamphbaagreatdoor", sum := "a9229df734c4cfe1c557e426c42b138a7f2b3b16af2f4407912113a41eea4359", func := "hearsay/hearsaylaw.All", spec := "all", inPlace := ["internal/reflectlite.TypeOf", "internal/reflectlite.ValueOf", "(internal/reflectlite.Value).Type", "(internal/reflectlite.Value).IsNil", "(internal/reflectlite.Value).Elem", "(internal/reflectlite.Value).Set", "slices.overlaps[hearsay/api.Frame]"], unfollowed := true, recurses := true, named := ["hearsay/fault.Arg", "hearsay/fault.Long", "hearsay/fault.Spent", "hearsay/fault.Busy", "hearsay/fault.Frame", "hearsay/fault.Self", "hearsay/fault.Old", "hearsay/fault.Far", "errors.errorType"], apart := false, laid := [("errors.errorType", laid_errors_errorType), ("hearsay/fault.Arg", laid_hearsay_fault_Arg), ("hearsay/fault.Long", laid_hearsay_fault_Long), ("hearsay/fault.Spent", laid_hearsay_fault_Spent), ("hearsay/fault.Busy", laid_hearsay_fault_Busy), ("hearsay/fault.Frame", laid_hearsay_fault_Frame), ("hearsay/fault.Self", laid_hearsay_fault_Self), ("hearsay/fault.Old", laid_hearsay_fault_Old), ("hearsay/fault.Far", laid_hearsay_fault_Far)] }
def AllSaid : Prop := allRow.holds Tryz.pinned (OpenSpec.ofChange allSpec)

/-- ITS FALSE NEIGHBOUR: 'it returns false'. Refute it at one input. -/
def allWrong : ChangeSpec := { name := "all", fn := fun _ => fun
  | [d] => { results := [.lit (.bool false)], args := [d] }
  | _ => none }
def AllWrongFalsely : Prop := allRow.holds Tryz.pinned (OpenSpec.ofChange allWrong)

/- THE SECOND FORM. 'bulk': how many values and letters a reading holds, each counted each time it is reached (what is shared counts as often as it is met; a slice's spare places count too). A statement '..UptoSaid' is the law's where the arguments, and the package variables that the reading takes, are together of bulk at most 1048576: NARROWER than '..Said'. Prove '..Said' where nothing that the law and all that it calls make is longer than what came in: it says more and counts as full. Else prove '..UptoSaid'. A law counts once. -/
mutual
def uptoBulk {H : Type} : DataW H → Nat
  | .lit (.string bytes) => bytes.length + 1
  | .lit _ => 1
  | .nil => 1
  | .ptr d => uptoBulk d + 1
  | .slice elems spare => uptoBulkAll elems + uptoBulkAll spare + 1
  | .agg parts => uptoBulkAll parts + 1
  | .iface _ d => uptoBulk d + 1
  | .map entries => uptoBulkEntries entries + 1
  | .held _ => 1
def uptoBulkAll {H : Type} : List (DataW H) → Nat
  | [] => 0
  | d :: r => uptoBulk d + uptoBulkAll r
def uptoBulkEntries {H : Type} : List (Lit × DataW H) → Nat
  | [] => 0
  | x :: r => uptoBulkEntry x + uptoBulkEntries r
def uptoBulkEntry {H : Type} : Lit × DataW H → Nat
  | (.string bytes, d) => bytes.length + uptoBulk d + 1
  | (_, d) => uptoBulk d + 1
 end
def uptoSmall : (H : Type) → List (DataW H) → Bool := fun _ ds => decide (uptoBulkAll ds ≤ 1048576)
def OpenSpec.upto (s : _root_.Go.ChangeSpec) : _root_.Go.OpenSpec := { _root_.Go.OpenSpec.ofChange s with cond := some uptoSmall }

/-- 'hearsaylaw.Nodes', WHERE WHAT IT READS IS OF BULK AT MOST 1048576: true; the input reads as it did. -/
def nodesUptoRow : OpenClaim := { program := "ytabecbjfamphbaagreatdoor", sum := "a9229df734c4cfe1c557e426c42b138a7f2b3b16af2f4407912113a41eea4359", func := "hearsay/hearsaylaw.Nodes", spec := "nodes", inPlace := ["internal/reflectlite.TypeOf", "internal/reflectlite.ValueOf", "(internal/reflectlite.Value).Type", "(internal/reflectlite.Value).IsNil", "(internal/reflectlite.Value).Elem", "(internal/reflectlite.Value).Set", "slices.overlaps[hearsay/api.Frame]"], unfollowed := true, recurses := true, named := ["hearsay/fault.Arg", "hearsay/fault.Long", "hearsay/fault.Spent", "hearsay/fault.Busy", "hearsay/fault.Frame", "hearsay/fault.Self", "hearsay/fault.Old", "hearsay/fault.Far", "errors.errorType"], apart := false, laid := [("errors.errorType", laid_errors_errorType), ("hearsay/fault.Arg", laid_hearsay_fault_Arg), ("hearsay/fault.Long", laid_hearsay_fault_Long), ("hearsay/fault.Spent", laid_hearsay_fault_Spent), ("hearsay/fault.Busy", laid_hearsay_fault_Busy), ("hearsay/fault.Frame", laid_hearsay_fault_Frame), ("hearsay/fault.Self", laid_hearsay_fault_Self), ("hearsay/fault.Old", laid_hearsay_fault_Old), ("hearsay/fault.Far", laid_hearsay_fault_Far)], narrowed := true }
def NodesUptoSaid : Prop := nodesUptoRow.holds Tryz.pinned (OpenSpec.upto nodesSpec)

/-- 'hearsaylaw.Nets', WHERE WHAT IT READS IS OF BULK AT MOST 1048576: true; the input reads as it did. -/
def netsUptoRow : OpenClaim := { program := "ytabecbjfamphbaagreatdoor", sum := "a9229df734c4cfe1c557e426c42b138a7f2b3b16af2f4407912113a41eea4359", func := "hearsay/hearsaylaw.Nets", spec := "nets", inPlace := ["internal/reflectlite.TypeOf", "internal/reflectlite.ValueOf", "(internal/reflectlite.Value).Type", "(internal/reflectlite.Value).IsNil", "(internal/reflectlite.Value).Elem", "(internal/reflectlite.Value).Set", "slices.overlaps[hearsay/api.Frame]"], unfollowed := true, recurses := true, named := ["hearsay/fault.Arg", "hearsay/fault.Long", "hearsay/fault.Spent", "hearsay/fault.Busy", "hearsay/fault.Frame", "hearsay/fault.Self", "hearsay/fault.Old", "hearsay/fault.Far", "errors.errorType"], apart := false, laid := [("errors.errorType", laid_errors_errorType), ("hearsay/fault.Arg", laid_hearsay_fault_Arg), ("hearsay/fault.Long", laid_hearsay_fault_Long), ("hearsay/fault.Spent", laid_hearsay_fault_Spent), ("hearsay/fault.Busy", laid_hearsay_fault_Busy), ("hearsay/fault.Frame", laid_hearsay_fault_Frame), ("hearsay/fault.Self", laid_hearsay_fault_Self), ("hearsay/fault.Old", laid_hearsay_fault_Old), ("hearsay/fault.Far", laid_hearsay_fault_Far)], narrowed := true }
def NetsUptoSaid : Prop := netsUptoRow.holds Tryz.pinned (OpenSpec.upto netsSpec)

/-- 'hearsaykeep.Causal', WHERE WHAT IT READS IS OF BULK AT MOST 1048576: true; the input reads as it did. -/
def causalUptoRow : OpenClaim := { program := "ytabecbjfamphbaagreatdoor", sum := "a9229df734c4cfe1c557e426c42b138a7f2b3b16af2f4407912113a41eea4359", func := "hearsay/hearsaykeep.Causal", spec := "causal", inPlace := ["internal/reflectlite.TypeOf", "slices.overlaps[hearsay/api.Frame]"], unfollowed := true, recurses := true, named := ["hearsay/fault.Arg", "hearsay/fault.Long", "hearsay/fault.Spent", "hearsay/fault.Busy", "hearsay/fault.Frame", "hearsay/fault.Self", "hearsay/fault.Old", "hearsay/fault.Far"], apart := false, laid := [("hearsay/fault.Arg", laid_hearsay_fault_Arg), ("hearsay/fault.Long", laid_hearsay_fault_Long), ("hearsay/fault.Spent", laid_hearsay_fault_Spent), ("hearsay/fault.Busy", laid_hearsay_fault_Busy), ("hearsay/fault.Frame", laid_hearsay_fault_Frame), ("hearsay/fault.Self", laid_hearsay_fault_Self), ("hearsay/fault.Old", laid_hearsay_fault_Old), ("hearsay/fault.Far", laid_hearsay_fault_Far)], narrowed := true }
def CausalUptoSaid : Prop := causalUptoRow.holds Tryz.pinned (OpenSpec.upto causalSpec)

/-- 'hearsaykeep.Settles', WHERE WHAT IT READS IS OF BULK AT MOST 1048576: true; the input reads as it did. -/
def settlesUptoRow : OpenClaim := { program := "ytabecbjfamphbaagreatdoor", sum := "a9229df734c4cfe1c557e426c42b138a7f2b3b16af2f4407912113a41eea4359", func := "hearsay/hearsaykeep.Settles", spec := "settles", inPlace := ["internal/reflectlite.TypeOf", "slices.overlaps[hearsay/api.Frame]"], unfollowed := true, recurses := true, named := ["hearsay/fault.Arg", "hearsay/fault.Long", "hearsay/fault.Spent", "hearsay/fault.Busy", "hearsay/fault.Frame", "hearsay/fault.Self", "hearsay/fault.Old", "hearsay/fault.Far"], apart := false, laid := [("hearsay/fault.Arg", laid_hearsay_fault_Arg), ("hearsay/fault.Long", laid_hearsay_fault_Long), ("hearsay/fault.Spent", laid_hearsay_fault_Spent), ("hearsay/fault.Busy", laid_hearsay_fault_Busy), ("hearsay/fault.Frame", laid_hearsay_fault_Frame), ("hearsay/fault.Self", laid_hearsay_fault_Self), ("hearsay/fault.Old", laid_hearsay_fault_Old), ("hearsay/fault.Far", laid_hearsay_fault_Far)], narrowed := true }
def SettlesUptoSaid : Prop := settlesUptoRow.holds Tryz.pinned (OpenSpec.upto settlesSpec)

/-- 'hearsaykeep.Freed', WHERE WHAT IT READS IS OF BULK AT MOST 1048576: true; the input reads as it did. -/
def freedUptoRow : OpenClaim := { program := "ytabecbjfamphbaagreatdoor", sum := "a9229df734c4cfe1c557e426c42b138a7f2b3b16af2f4407912113a41eea4359", func := "hearsay/hearsaykeep.Freed", spec := "freed", inPlace := ["internal/reflectlite.TypeOf", "slices.overlaps[hearsay/api.Frame]"], unfollowed := true, recurses := true, named := ["hearsay/fault.Arg", "hearsay/fault.Long", "hearsay/fault.Spent", "hearsay/fault.Busy", "hearsay/fault.Frame", "hearsay/fault.Self", "hearsay/fault.Old", "hearsay/fault.Far"], apart := false, laid := [("hearsay/fault.Arg", laid_hearsay_fault_Arg), ("hearsay/fault.Long", laid_hearsay_fault_Long), ("hearsay/fault.Spent", laid_hearsay_fault_Spent), ("hearsay/fault.Busy", laid_hearsay_fault_Busy), ("hearsay/fault.Frame", laid_hearsay_fault_Frame), ("hearsay/fault.Self", laid_hearsay_fault_Self), ("hearsay/fault.Old", laid_hearsay_fault_Old), ("hearsay/fault.Far", laid_hearsay_fault_Far)], narrowed := true }
def FreedUptoSaid : Prop := freedUptoRow.holds Tryz.pinned (OpenSpec.upto freedSpec)

/-- 'hearsaykeep.Bounded', WHERE WHAT IT READS IS OF BULK AT MOST 1048576: true; the input reads as it did. -/
def boundedUptoRow : OpenClaim := { program := "ytabecbjfamphbaagreatdoor", sum := "a9229df734c4cfe1c557e426c42b138a7f2b3b16af2f4407912113a41eea4359", func := "hearsay/hearsaykeep.Bounded", spec := "bounded", inPlace := ["internal/reflectlite.TypeOf", "slices.overlaps[hearsay/api.Frame]", "internal/reflectlite.ValueOf", "(internal/reflectlite.Value).Type", "(internal/reflectlite.Value).IsNil", "(internal/reflectlite.Value).Elem", "(internal/reflectlite.Value).Set"], unfollowed := true, recurses := true, named := ["hearsay/fault.Arg", "hearsay/fault.Long", "hearsay/fault.Spent", "hearsay/fault.Busy", "hearsay/fault.Frame", "hearsay/fault.Self", "hearsay/fault.Old", "hearsay/fault.Far", "errors.errorType"], apart := false, laid := [("errors.errorType", laid_errors_errorType), ("hearsay/fault.Arg", laid_hearsay_fault_Arg), ("hearsay/fault.Long", laid_hearsay_fault_Long), ("hearsay/fault.Spent", laid_hearsay_fault_Spent), ("hearsay/fault.Busy", laid_hearsay_fault_Busy), ("hearsay/fault.Frame", laid_hearsay_fault_Frame), ("hearsay/fault.Self", laid_hearsay_fault_Self), ("hearsay/fault.Old", laid_hearsay_fault_Old), ("hearsay/fault.Far", laid_hearsay_fault_Far)], narrowed := true }
def BoundedUptoSaid : Prop := boundedUptoRow.holds Tryz.pinned (OpenSpec.upto boundedSpec)

/-- 'hearsaykeep.Carried', WHERE WHAT IT READS IS OF BULK AT MOST 1048576: true; the input reads as it did. -/
def carriedUptoRow : OpenClaim := { program := "ytabecbjfamphbaagreatdoor", sum := "a9229df734c4cfe1c557e426c42b138a7f2b3b16af2f4407912113a41eea4359", func := "hearsay/hearsaykeep.Carried", spec := "carried", inPlace := ["internal/reflectlite.TypeOf", "slices.overlaps[hearsay/api.Frame]"], unfollowed := true, recurses := true, named := ["hearsay/fault.Arg", "hearsay/fault.Long", "hearsay/fault.Spent", "hearsay/fault.Busy", "hearsay/fault.Frame", "hearsay/fault.Self", "hearsay/fault.Old", "hearsay/fault.Far"], apart := false, laid := [("hearsay/fault.Arg", laid_hearsay_fault_Arg), ("hearsay/fault.Long", laid_hearsay_fault_Long), ("hearsay/fault.Spent", laid_hearsay_fault_Spent), ("hearsay/fault.Busy", laid_hearsay_fault_Busy), ("hearsay/fault.Frame", laid_hearsay_fault_Frame), ("hearsay/fault.Self", laid_hearsay_fault_Self), ("hearsay/fault.Old", laid_hearsay_fault_Old), ("hearsay/fault.Far", laid_hearsay_fault_Far)], narrowed := true }
def CarriedUptoSaid : Prop := carriedUptoRow.holds Tryz.pinned (OpenSpec.upto carriedSpec)

/-- 'hearsaylaw.All', WHERE WHAT IT READS IS OF BULK AT MOST 1048576: true; the input reads as it did. -/
def allUptoRow : OpenClaim := { program := "ytabecbjfamphbaagreatdoor", sum := "a9229df734c4cfe1c557e426c42b138a7f2b3b16af2f4407912113a41eea4359", func := "hearsay/hearsaylaw.All", spec := "all", inPlace := ["internal/reflectlite.TypeOf", "internal/reflectlite.ValueOf", "(internal/reflectlite.Value).Type", "(internal/reflectlite.Value).IsNil", "(internal/reflectlite.Value).Elem", "(internal/reflectlite.Value).Set", "slices.overlaps[hearsay/api.Frame]"], unfollowed := true, recurses := true, named := ["hearsay/fault.Arg", "hearsay/fault.Long", "hearsay/fault.Spent", "hearsay/fault.Busy", "hearsay/fault.Frame", "hearsay/fault.Self", "hearsay/fault.Old", "hearsay/fault.Far", "errors.errorType"], apart := false, laid := [("errors.errorType", laid_errors_errorType), ("hearsay/fault.Arg", laid_hearsay_fault_Arg), ("hearsay/fault.Long", laid_hearsay_fault_Long), ("hearsay/fault.Spent", laid_hearsay_fault_Spent), ("hearsay/fault.Busy", laid_hearsay_fault_Busy), ("hearsay/fault.Frame", laid_hearsay_fault_Frame), ("hearsay/fault.Self", laid_hearsay_fault_Self), ("hearsay/fault.Old", laid_hearsay_fault_Old), ("hearsay/fault.Far", laid_hearsay_fault_Far)], narrowed := true }
def AllUptoSaid : Prop := allUptoRow.holds Tryz.pinned (OpenSpec.upto allSpec)

end Rows
end Go.Proofs.YtabecbjfamphbaaGreatDoor
