/-
  DERIVED. GIVEN WITH THE SEED: THE CARDS: each row of YtcifakhpggoebaaGreatDoorRows.lean that lists a variable, with what it lists TIED to the program's text (the seventh form; the later family's looks); each row that meets fmt, with fmt's text TOLD by the authors' own Lean function (tested against real Go, not proved from fmt's source: count such statements apart). THE CARD IS WHAT COUNTS. Prove the row's statement (the work); the ties are given (YtcifakhpggoebaaGreatDoorTie.lean); close each card by the builder's one call (the guide's Derived/Test/ToyasCard.lean, 'card_holds'). Laid BY PROGRAM, IN A SANDBOX (cutbox-door.mjs). By AI agents, Wed Nov 11 2026. No macro, syntax, notation, axiom, sorry.
-/
import Derived.Test.YtcifakhpggoebaaGreatDoorRows
import GoSem.ClaimSeven
namespace Go.Proofs.YtcifakhpggoebaaGreatDoor
namespace Rows

/-- THE TIED CARD OF 'manifoldlaw12.FixedwidthCells'. -/
def fixedwidthCellsCard : Claim7 := { stood := { row := fixedwidthCellsRow, standIns := [], harness := (true, "345fa5427339a53299a6ac97763e9284a4e7f2899968cfdc88be1148cc1b512b"), looks := false }, kinds := [], alts := [], laidByText := true, laidKinds := [.data, .data, .data, .data, .data, .data, .data, .pinned], laidTests := true, laidLooks := .later }
def FixedwidthCellsCardSaid : Prop := Claim7.holds Tryz.pinned (.plain (OpenSpec.ofChange fixedwidthCellsSpec)) fixedwidthCellsCard

/-- THE SECOND FORM's CARD OF 'manifoldlaw12.FixedwidthCells'. -/
def fixedwidthCellsUptoCard : Claim7 := { stood := { row := fixedwidthCellsUptoRow, standIns := [], harness := (true, "345fa5427339a53299a6ac97763e9284a4e7f2899968cfdc88be1148cc1b512b"), looks := false }, kinds := [], alts := [], laidByText := true, laidKinds := [.data, .data, .data, .data, .data, .data, .data, .pinned], laidTests := true, laidLooks := .later }
def FixedwidthCellsUptoCardSaid : Prop := Claim7.holds Tryz.pinned (.plain (OpenSpec.upto fixedwidthCellsSpec)) fixedwidthCellsUptoCard
end Rows
end Go.Proofs.YtcifakhpggoebaaGreatDoor
