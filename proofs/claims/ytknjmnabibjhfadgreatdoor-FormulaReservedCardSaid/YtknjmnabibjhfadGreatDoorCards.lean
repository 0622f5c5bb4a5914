/-
  DERIVED. GIVEN WITH THE SEED: THE CARDS: each row of YtknjmnabibjhfadGreatDoorRows.lean that lists a variable, with what it lists TIED to the program's text (the seventh form; the later family's looks); each row that meets fmt, with fmt's text TOLD by the authors' own Lean function (tested against real Go, not proved from fmt's source: count such statements apart). THE CARD IS WHAT COUNTS. Prove the row's statement (the work); the ties are given (YtknjmnabibjhfadGreatDoorTie.lean); close each card by the builder's one call (the guide's Derived/Test/ToyasCard.lean, 'card_holds'). Laid BY PROGRAM, IN A SANDBOX (cutbox-door.mjs). By AI agents, Wed Nov 11 2026. No macro, syntax, notation, axiom, sorry.
-/
import Derived.Test.YtknjmnabibjhfadGreatDoorRows
import GoSem.ClaimSeven
namespace Go.Proofs.YtknjmnabibjhfadGreatDoor
namespace Rows

/-- THE TIED CARD OF 'manifoldlaw17.FormulaReserved'. -/
def formulaReservedCard : Claim7 := { stood := { row := formulaReservedRow, standIns := [], harness := (true, "629a717c54eea3acdc6a53bf30fa95f460e45fb6a0e5c2059c9793878f8bf7ad"), looks := true }, kinds := [], alts := [], laidByText := true, laidKinds := [.data, .data, .data, .data, .data, .sentinel, .sentinel, .data, .data, .data, .pinned], laidTests := true, laidLooks := .later }
def FormulaReservedCardSaid : Prop := Claim7.holds Tryz.pinned (.plain (OpenSpec.ofChange formulaReservedSpec)) formulaReservedCard

/-- THE SECOND FORM's CARD OF 'manifoldlaw17.FormulaReserved'. -/
def formulaReservedUptoCard : Claim7 := { stood := { row := formulaReservedUptoRow, standIns := [], harness := (true, "629a717c54eea3acdc6a53bf30fa95f460e45fb6a0e5c2059c9793878f8bf7ad"), looks := true }, kinds := [], alts := [], laidByText := true, laidKinds := [.data, .data, .data, .data, .data, .sentinel, .sentinel, .data, .data, .data, .pinned], laidTests := true, laidLooks := .later }
def FormulaReservedUptoCardSaid : Prop := Claim7.holds Tryz.pinned (.plain (OpenSpec.upto formulaReservedSpec)) formulaReservedUptoCard
end Rows
end Go.Proofs.YtknjmnabibjhfadGreatDoor
