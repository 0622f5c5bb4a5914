/-
  DERIVED. GIVEN WITH THE SEED: THE CARDS: each row of YtcifakhpggoebabGreatDoorRows.lean that lists a variable, with what it lists TIED to the program's text (the seventh form; the later family's looks); each row that meets fmt, with fmt's text TOLD by the authors' own Lean function (tested against real Go, not proved from fmt's source: count such statements apart). THE CARD IS WHAT COUNTS. Prove the row's statement (the work); the ties are given (YtcifakhpggoebabGreatDoorTie.lean); close each card by the builder's one call (the guide's Derived/Test/ToyasCard.lean, 'card_holds'). Laid BY PROGRAM, IN A SANDBOX (cutbox-door.mjs). By AI agents, Wed Nov 11 2026. No macro, syntax, notation, axiom, sorry.
-/
import Derived.Test.YtcifakhpggoebabGreatDoorRows
import GoSem.ClaimSeven
namespace Go.Proofs.YtcifakhpggoebabGreatDoor
namespace Rows

/-- THE TIED CARD OF 'manifoldlaw16.ExprCalculates'. -/
def exprCalculatesCard : Claim7 := { stood := { row := exprCalculatesRow, standIns := [], harness := (true, "1d989a3581f313b940dfbb2af2bc5e188c9ffac7e4cb554a1e99d2db40b07d3e"), looks := true }, kinds := [], alts := [], laidByText := true, laidKinds := [.data, .data, .data, .data, .data, .sentinel, .sentinel, .data, .data, .data, .pinned], laidTests := true, laidLooks := .later }
def ExprCalculatesCardSaid : Prop := Claim7.holds Tryz.pinned (.plain (OpenSpec.ofChange exprCalculatesSpec)) exprCalculatesCard

/-- THE SECOND FORM's CARD OF 'manifoldlaw16.ExprCalculates'. -/
def exprCalculatesUptoCard : Claim7 := { stood := { row := exprCalculatesUptoRow, standIns := [], harness := (true, "1d989a3581f313b940dfbb2af2bc5e188c9ffac7e4cb554a1e99d2db40b07d3e"), looks := true }, kinds := [], alts := [], laidByText := true, laidKinds := [.data, .data, .data, .data, .data, .sentinel, .sentinel, .data, .data, .data, .pinned], laidTests := true, laidLooks := .later }
def ExprCalculatesUptoCardSaid : Prop := Claim7.holds Tryz.pinned (.plain (OpenSpec.upto exprCalculatesSpec)) exprCalculatesUptoCard
end Rows
end Go.Proofs.YtcifakhpggoebabGreatDoor
