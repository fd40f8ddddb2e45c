/-
  DERIVED. GIVEN WITH THE SEED: THE CARDS: each row of YtabecbjfamphbaaDoorRows.lean that lists a variable, with what it lists TIED to the program's text (the seventh form; the later family's looks); each row that meets fmt, with fmt's text TOLD by the authors' own Lean function (tested against real Go, not proved from fmt's source: count such statements apart). THE CARD IS WHAT COUNTS. Prove the row's statement (the work); the ties are given (YtabecbjfamphbaaDoorTie.lean); close each card by the builder's one call (the guide's Derived/Test/ToyasCard.lean, 'card_holds'). Laid BY PROGRAM, IN A SANDBOX (cutbox-door.mjs). By AI agents, Wed Nov 11 2026. No macro, syntax, notation, axiom, sorry.
-/
import Derived.Test.YtabecbjfamphbaaDoorRows
import GoSem.ClaimSeven
namespace Go.Proofs.YtabecbjfamphbaaDoor
namespace Rows

/-- THE TIED CARD OF 'hearsaylaw.Encodes'. -/
def encodesCard : Claim7 := { stood := { row := encodesRow, standIns := [], harness := (true, "16ede18dfcd19e94ad5b86ea04c8b9d6a540f09953806a07204fb9f6898300a4"), looks := true }, kinds := [], alts := [], laidByText := true, laidKinds := [.sentinel, .sentinel, .sentinel, .sentinel, .sentinel, .sentinel, .sentinel, .sentinel], laidTests := true, laidLooks := .later }
def EncodesCardSaid : Prop := Claim7.holds Tryd.pinned (.plain (OpenSpec.ofChange encodesSpec)) encodesCard

/-- THE TIED CARD OF 'hearsaylaw.Decodes'. -/
def decodesCard : Claim7 := { stood := { row := decodesRow, standIns := [], harness := (true, "16ede18dfcd19e94ad5b86ea04c8b9d6a540f09953806a07204fb9f6898300a4"), looks := true }, kinds := [], alts := [], laidByText := true, laidKinds := [.handle, .sentinel, .sentinel, .sentinel, .sentinel, .sentinel, .sentinel, .sentinel, .sentinel], laidTests := true, laidLooks := .later }
def DecodesCardSaid : Prop := Claim7.holds Tryd.pinned (.plain (OpenSpec.ofChange decodesSpec)) decodesCard

/-- THE TIED CARD OF 'hearsaykeep.Reread'. -/
def rereadCard : Claim7 := { stood := { row := rereadRow, standIns := [], harness := (true, "16ede18dfcd19e94ad5b86ea04c8b9d6a540f09953806a07204fb9f6898300a4"), looks := true }, kinds := [], alts := [], laidByText := true, laidKinds := [.handle, .sentinel, .sentinel, .sentinel, .sentinel, .sentinel, .sentinel, .sentinel, .sentinel], laidTests := true, laidLooks := .later }
def RereadCardSaid : Prop := Claim7.holds Tryd.pinned (.plain (OpenSpec.ofChange rereadSpec)) rereadCard

/-- THE SECOND FORM's CARD OF 'hearsaylaw.Encodes'. -/
def encodesUptoCard : Claim7 := { stood := { row := encodesUptoRow, standIns := [], harness := (true, "16ede18dfcd19e94ad5b86ea04c8b9d6a540f09953806a07204fb9f6898300a4"), looks := true }, kinds := [], alts := [], laidByText := true, laidKinds := [.sentinel, .sentinel, .sentinel, .sentinel, .sentinel, .sentinel, .sentinel, .sentinel], laidTests := true, laidLooks := .later }
def EncodesUptoCardSaid : Prop := Claim7.holds Tryd.pinned (.plain (OpenSpec.upto encodesSpec)) encodesUptoCard

/-- THE SECOND FORM's CARD OF 'hearsaylaw.Decodes'. -/
def decodesUptoCard : Claim7 := { stood := { row := decodesUptoRow, standIns := [], harness := (true, "16ede18dfcd19e94ad5b86ea04c8b9d6a540f09953806a07204fb9f6898300a4"), looks := true }, kinds := [], alts := [], laidByText := true, laidKinds := [.handle, .sentinel, .sentinel, .sentinel, .sentinel, .sentinel, .sentinel, .sentinel, .sentinel], laidTests := true, laidLooks := .later }
def DecodesUptoCardSaid : Prop := Claim7.holds Tryd.pinned (.plain (OpenSpec.upto decodesSpec)) decodesUptoCard

/-- THE SECOND FORM's CARD OF 'hearsaykeep.Reread'. -/
def rereadUptoCard : Claim7 := { stood := { row := rereadUptoRow, standIns := [], harness := (true, "16ede18dfcd19e94ad5b86ea04c8b9d6a540f09953806a07204fb9f6898300a4"), looks := true }, kinds := [], alts := [], laidByText := true, laidKinds := [.handle, .sentinel, .sentinel, .sentinel, .sentinel, .sentinel, .sentinel, .sentinel, .sentinel], laidTests := true, laidLooks := .later }
def RereadUptoCardSaid : Prop := Claim7.holds Tryd.pinned (.plain (OpenSpec.upto rereadSpec)) rereadUptoCard
end Rows
end Go.Proofs.YtabecbjfamphbaaDoor
