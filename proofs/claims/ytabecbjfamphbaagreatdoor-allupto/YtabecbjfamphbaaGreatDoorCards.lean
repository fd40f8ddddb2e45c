/-
  DERIVED. GIVEN WITH THE SEED: THE CARDS: each row of YtabecbjfamphbaaGreatDoorRows.lean that lists a variable, with what it lists TIED to the program's text (the seventh form; the later family's looks); each row that meets fmt, with fmt's text TOLD by the authors' own Lean function (tested against real Go, not proved from fmt's source: count such statements apart). THE CARD IS WHAT COUNTS. Prove the row's statement (the work); the ties are given (YtabecbjfamphbaaGreatDoorTie.lean); close each card by the builder's one call (the guide's Derived/Test/ToyasCard.lean, 'card_holds'). Laid BY PROGRAM, IN A SANDBOX (cutbox-door.mjs). By AI agents, Wed Nov 11 2026. No macro, syntax, notation, axiom, sorry.
-/
import Derived.Test.YtabecbjfamphbaaGreatDoorRows
import GoSem.ClaimSeven
namespace Go.Proofs.YtabecbjfamphbaaGreatDoor
namespace Rows

/-- THE TIED CARD OF 'hearsaylaw.Nodes'. -/
def nodesCard : Claim7 := { stood := { row := nodesRow, standIns := [], harness := (true, "b3420168c44a5c48e875f2e914f0b50c2d11feef16bfc07f1a3ddca2ba07c297"), looks := true }, kinds := [], alts := [], laidByText := true, laidKinds := [.handle, .sentinel, .sentinel, .sentinel, .sentinel, .sentinel, .sentinel, .sentinel, .sentinel], laidTests := true, laidLooks := .later }
def NodesCardSaid : Prop := Claim7.holds Tryz.pinned (.plain (OpenSpec.ofChange nodesSpec)) nodesCard

/-- THE TIED CARD OF 'hearsaylaw.Nets'. -/
def netsCard : Claim7 := { stood := { row := netsRow, standIns := [], harness := (true, "b3420168c44a5c48e875f2e914f0b50c2d11feef16bfc07f1a3ddca2ba07c297"), looks := true }, kinds := [], alts := [], laidByText := true, laidKinds := [.handle, .sentinel, .sentinel, .sentinel, .sentinel, .sentinel, .sentinel, .sentinel, .sentinel], laidTests := true, laidLooks := .later }
def NetsCardSaid : Prop := Claim7.holds Tryz.pinned (.plain (OpenSpec.ofChange netsSpec)) netsCard

/-- THE TIED CARD OF 'hearsaykeep.Causal'. -/
def causalCard : Claim7 := { stood := { row := causalRow, standIns := [], harness := (true, "b3420168c44a5c48e875f2e914f0b50c2d11feef16bfc07f1a3ddca2ba07c297"), looks := true }, kinds := [], alts := [], laidByText := true, laidKinds := [.sentinel, .sentinel, .sentinel, .sentinel, .sentinel, .sentinel, .sentinel, .sentinel], laidTests := true, laidLooks := .later }
def CausalCardSaid : Prop := Claim7.holds Tryz.pinned (.plain (OpenSpec.ofChange causalSpec)) causalCard

/-- THE TIED CARD OF 'hearsaykeep.Settles'. -/
def settlesCard : Claim7 := { stood := { row := settlesRow, standIns := [], harness := (true, "b3420168c44a5c48e875f2e914f0b50c2d11feef16bfc07f1a3ddca2ba07c297"), looks := true }, kinds := [], alts := [], laidByText := true, laidKinds := [.sentinel, .sentinel, .sentinel, .sentinel, .sentinel, .sentinel, .sentinel, .sentinel], laidTests := true, laidLooks := .later }
def SettlesCardSaid : Prop := Claim7.holds Tryz.pinned (.plain (OpenSpec.ofChange settlesSpec)) settlesCard

/-- THE TIED CARD OF 'hearsaykeep.Freed'. -/
def freedCard : Claim7 := { stood := { row := freedRow, standIns := [], harness := (true, "b3420168c44a5c48e875f2e914f0b50c2d11feef16bfc07f1a3ddca2ba07c297"), looks := true }, kinds := [], alts := [], laidByText := true, laidKinds := [.sentinel, .sentinel, .sentinel, .sentinel, .sentinel, .sentinel, .sentinel, .sentinel], laidTests := true, laidLooks := .later }
def FreedCardSaid : Prop := Claim7.holds Tryz.pinned (.plain (OpenSpec.ofChange freedSpec)) freedCard

/-- THE TIED CARD OF 'hearsaykeep.Bounded'. -/
def boundedCard : Claim7 := { stood := { row := boundedRow, standIns := [], harness := (true, "b3420168c44a5c48e875f2e914f0b50c2d11feef16bfc07f1a3ddca2ba07c297"), looks := true }, kinds := [], alts := [], laidByText := true, laidKinds := [.handle, .sentinel, .sentinel, .sentinel, .sentinel, .sentinel, .sentinel, .sentinel, .sentinel], laidTests := true, laidLooks := .later }
def BoundedCardSaid : Prop := Claim7.holds Tryz.pinned (.plain (OpenSpec.ofChange boundedSpec)) boundedCard

/-- THE TIED CARD OF 'hearsaykeep.Carried'. -/
def carriedCard : Claim7 := { stood := { row := carriedRow, standIns := [], harness := (true, "b3420168c44a5c48e875f2e914f0b50c2d11feef16bfc07f1a3ddca2ba07c297"), looks := true }, kinds := [], alts := [], laidByText := true, laidKinds := [.sentinel, .sentinel, .sentinel, .sentinel, .sentinel, .sentinel, .sentinel, .sentinel], laidTests := true, laidLooks := .later }
def CarriedCardSaid : Prop := Claim7.holds Tryz.pinned (.plain (OpenSpec.ofChange carriedSpec)) carriedCard

/-- THE TIED CARD OF 'hearsaylaw.All'. -/
def allCard : Claim7 := { stood := { row := allRow, standIns := [], harness := (true, "b3420168c44a5c48e875f2e914f0b50c2d11feef16bfc07f1a3ddca2ba07c297"), looks := true }, kinds := [], alts := [], laidByText := true, laidKinds := [.handle, .sentinel, .sentinel, .sentinel, .sentinel, .sentinel, .sentinel, .sentinel, .sentinel], laidTests := true, laidLooks := .later }
def AllCardSaid : Prop := Claim7.holds Tryz.pinned (.plain (OpenSpec.ofChange allSpec)) allCard

/-- THE SECOND FORM's CARD OF 'hearsaylaw.Nodes'. -/
def nodesUptoCard : Claim7 := { stood := { row := nodesUptoRow, standIns := [], harness := (true, "b3420168c44a5c48e875f2e914f0b50c2d11feef16bfc07f1a3ddca2ba07c297"), looks := true }, kinds := [], alts := [], laidByText := true, laidKinds := [.handle, .sentinel, .sentinel, .sentinel, .sentinel, .sentinel, .sentinel, .sentinel, .sentinel], laidTests := true, laidLooks := .later }
def NodesUptoCardSaid : Prop := Claim7.holds Tryz.pinned (.plain (OpenSpec.upto nodesSpec)) nodesUptoCard

/-- THE SECOND FORM's CARD OF 'hearsaylaw.Nets'. -/
def netsUptoCard : Claim7 := { stood := { row := netsUptoRow, standIns := [], harness := (true, "b3420168c44a5c48e875f2e914f0b50c2d11feef16bfc07f1a3ddca2ba07c297"), looks := true }, kinds := [], alts := [], laidByText := true, laidKinds := [.handle, .sentinel, .sentinel, .sentinel, .sentinel, .sentinel, .sentinel, .sentinel, .sentinel], laidTests := true, laidLooks := .later }
def NetsUptoCardSaid : Prop := Claim7.holds Tryz.pinned (.plain (OpenSpec.upto netsSpec)) netsUptoCard

/-- THE SECOND FORM's CARD OF 'hearsaykeep.Causal'. -/
def causalUptoCard : Claim7 := { stood := { row := causalUptoRow, standIns := [], harness := (true, "b3420168c44a5c48e875f2e914f0b50c2d11feef16bfc07f1a3ddca2ba07c297"), looks := true }, kinds := [], alts := [], laidByText := true, laidKinds := [.sentinel, .sentinel, .sentinel, .sentinel, .sentinel, .sentinel, .sentinel, .sentinel], laidTests := true, laidLooks := .later }
def CausalUptoCardSaid : Prop := Claim7.holds Tryz.pinned (.plain (OpenSpec.upto causalSpec)) causalUptoCard

/-- THE SECOND FORM's CARD OF 'hearsaykeep.Settles'. -/
def settlesUptoCard : Claim7 := { stood := { row := settlesUptoRow, standIns := [], harness := (true, "b3420168c44a5c48e875f2e914f0b50c2d11feef16bfc07f1a3ddca2ba07c297"), looks := true }, kinds := [], alts := [], laidByText := true, laidKinds := [.sentinel, .sentinel, .sentinel, .sentinel, .sentinel, .sentinel, .sentinel, .sentinel], laidTests := true, laidLooks := .later }
def SettlesUptoCardSaid : Prop := Claim7.holds Tryz.pinned (.plain (OpenSpec.upto settlesSpec)) settlesUptoCard

/-- THE SECOND FORM's CARD OF 'hearsaykeep.Freed'. -/
def freedUptoCard : Claim7 := { stood := { row := freedUptoRow, standIns := [], harness := (true, "b3420168c44a5c48e875f2e914f0b50c2d11feef16bfc07f1a3ddca2ba07c297"), looks := true }, kinds := [], alts := [], laidByText := true, laidKinds := [.sentinel, .sentinel, .sentinel, .sentinel, .sentinel, .sentinel, .sentinel, .sentinel], laidTests := true, laidLooks := .later }
def FreedUptoCardSaid : Prop := Claim7.holds Tryz.pinned (.plain (OpenSpec.upto freedSpec)) freedUptoCard

/-- THE SECOND FORM's CARD OF 'hearsaykeep.Bounded'. -/
def boundedUptoCard : Claim7 := { stood := { row := boundedUptoRow, standIns := [], harness := (true, "b3420168c44a5c48e875f2e914f0b50c2d11feef16bfc07f1a3ddca2ba07c297"), looks := true }, kinds := [], alts := [], laidByText := true, laidKinds := [.handle, .sentinel, .sentinel, .sentinel, .sentinel, .sentinel, .sentinel, .sentinel, .sentinel], laidTests := true, laidLooks := .later }
def BoundedUptoCardSaid : Prop := Claim7.holds Tryz.pinned (.plain (OpenSpec.upto boundedSpec)) boundedUptoCard

/-- THE SECOND FORM's CARD OF 'hearsaykeep.Carried'. -/
def carriedUptoCard : Claim7 := { stood := { row := carriedUptoRow, standIns := [], harness := (true, "b3420168c44a5c48e875f2e914f0b50c2d11feef16bfc07f1a3ddca2ba07c297"), looks := true }, kinds := [], alts := [], laidByText := true, laidKinds := [.sentinel, .sentinel, .sentinel, .sentinel, .sentinel, .sentinel, .sentinel, .sentinel], laidTests := true, laidLooks := .later }
def CarriedUptoCardSaid : Prop := Claim7.holds Tryz.pinned (.plain (OpenSpec.upto carriedSpec)) carriedUptoCard

/-- THE SECOND FORM's CARD OF 'hearsaylaw.All'. -/
def allUptoCard : Claim7 := { stood := { row := allUptoRow, standIns := [], harness := (true, "b3420168c44a5c48e875f2e914f0b50c2d11feef16bfc07f1a3ddca2ba07c297"), looks := true }, kinds := [], alts := [], laidByText := true, laidKinds := [.handle, .sentinel, .sentinel, .sentinel, .sentinel, .sentinel, .sentinel, .sentinel, .sentinel], laidTests := true, laidLooks := .later }
def AllUptoCardSaid : Prop := Claim7.holds Tryz.pinned (.plain (OpenSpec.upto allSpec)) allUptoCard
end Rows
end Go.Proofs.YtabecbjfamphbaaGreatDoor
