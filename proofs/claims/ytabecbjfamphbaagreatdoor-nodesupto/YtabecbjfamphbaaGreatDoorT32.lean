/-
  Texts that the proof needs, joined: Hb.
-/
import Derived.Test.YtabecbjfamphbaaGreatDoorT31
import Derived.Deep.RegionHeldLaw
/- hearsaykeep: Hands.lay. -/
namespace Go.Proofs.YtabecbjfamphbaaGreatDoor
open Go.RowKit Go.Stop Go.Extern

theorem take_snoc {α : Type} {l : List α} {i : Nat} {t : α} (h : l[i]? = some t) : l.take (i + 1) = l.take i ++ [t] := by
  rw [List.take_add_one, h]
  rfl
end Go.Proofs.YtabecbjfamphbaaGreatDoor
