/-
  DERIVED. GIVEN WITH THE SEED: THE CARDS: each row of YtnpanfbaafdhkacGreatDoorRows.lean that lists a variable, with what it lists TIED to the program's text (the seventh form; the later family's looks); each row that meets fmt, with fmt's text TOLD by the authors' own Lean function (tested against real Go, not proved from fmt's source: count such statements apart). THE CARD IS WHAT COUNTS. Prove the row's statement (the work); the ties are given (YtnpanfbaafdhkacGreatDoorTie.lean); close each card by the builder's one call (the guide's Derived/Test/ToyasCard.lean, 'card_holds'). Laid BY PROGRAM, IN A SANDBOX (cutbox-door.mjs). By AI agents, Wed Nov 11 2026. No macro, syntax, notation, axiom, sorry.
-/
import Derived.Test.YtnpanfbaafdhkacGreatDoorRows
import GoSem.ClaimSeven
namespace Go.Proofs.YtnpanfbaafdhkacGreatDoor
namespace Rows

/-- THE TIED CARD OF 'manifoldlaw08.SubtypeBounds'. -/
def subtypeBoundsCard : Claim7 := { stood := { row := subtypeBoundsRow, standIns := [], harness := (true, "3b212320c63e282ac3ee6493212c8b17149ec5dcfb21c8fe5d78cc25772f9f34"), looks := false }, kinds := [], alts := [], laidByText := true, laidKinds := [.data, .data, .pinned], laidTests := true, laidLooks := .later }
def SubtypeBoundsCardSaid : Prop := Claim7.holds Tryz.pinned (.plain (OpenSpec.ofChange subtypeBoundsSpec)) subtypeBoundsCard

/-- THE SECOND FORM's CARD OF 'manifoldlaw08.SubtypeBounds'. -/
def subtypeBoundsUptoCard : Claim7 := { stood := { row := subtypeBoundsUptoRow, standIns := [], harness := (true, "3b212320c63e282ac3ee6493212c8b17149ec5dcfb21c8fe5d78cc25772f9f34"), looks := false }, kinds := [], alts := [], laidByText := true, laidKinds := [.data, .data, .pinned], laidTests := true, laidLooks := .later }
def SubtypeBoundsUptoCardSaid : Prop := Claim7.holds Tryz.pinned (.plain (OpenSpec.upto subtypeBoundsSpec)) subtypeBoundsUptoCard
end Rows
end Go.Proofs.YtnpanfbaafdhkacGreatDoor
