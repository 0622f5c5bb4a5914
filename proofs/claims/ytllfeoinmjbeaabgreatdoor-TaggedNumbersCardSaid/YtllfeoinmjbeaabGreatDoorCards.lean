/-
  DERIVED. GIVEN WITH THE SEED: THE CARDS: each row of YtllfeoinmjbeaabGreatDoorRows.lean that lists a variable, with what it lists TIED to the program's text (the seventh form; the later family's looks); each row that meets fmt, with fmt's text TOLD by the authors' own Lean function (tested against real Go, not proved from fmt's source: count such statements apart). THE CARD IS WHAT COUNTS. Prove the row's statement (the work); the ties are given (YtllfeoinmjbeaabGreatDoorTie.lean); close each card by the builder's one call (the guide's Derived/Test/ToyasCard.lean, 'card_holds'). Laid BY PROGRAM, IN A SANDBOX (cutbox-door.mjs). By AI agents, Wed Nov 11 2026. No macro, syntax, notation, axiom, sorry.
-/
import Derived.Test.YtllfeoinmjbeaabGreatDoorRows
import GoSem.ClaimSeven
namespace Go.Proofs.YtllfeoinmjbeaabGreatDoor
namespace Rows

/-- THE TIED CARD OF 'manifoldlaw10.TaggedNumbers'. -/
def taggedNumbersCard : Claim7 := { stood := { row := taggedNumbersRow, standIns := [], harness := (true, "7e386431e27a9aa41baeb8ab062c2a8f0c97909b626835c25f60e57b24cfe48e"), looks := false }, kinds := [], alts := [], laidByText := true, laidKinds := [.data, .data, .pinned], laidTests := true, laidLooks := .later }
def TaggedNumbersCardSaid : Prop := Claim7.holds Tryz.pinned (.plain (OpenSpec.ofChange taggedNumbersSpec)) taggedNumbersCard

/-- THE SECOND FORM's CARD OF 'manifoldlaw10.TaggedNumbers'. -/
def taggedNumbersUptoCard : Claim7 := { stood := { row := taggedNumbersUptoRow, standIns := [], harness := (true, "7e386431e27a9aa41baeb8ab062c2a8f0c97909b626835c25f60e57b24cfe48e"), looks := false }, kinds := [], alts := [], laidByText := true, laidKinds := [.data, .data, .pinned], laidTests := true, laidLooks := .later }
def TaggedNumbersUptoCardSaid : Prop := Claim7.holds Tryz.pinned (.plain (OpenSpec.upto taggedNumbersSpec)) taggedNumbersUptoCard
end Rows
end Go.Proofs.YtllfeoinmjbeaabGreatDoor
