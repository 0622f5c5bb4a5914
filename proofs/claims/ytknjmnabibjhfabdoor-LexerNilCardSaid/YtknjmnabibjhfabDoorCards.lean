/-
  DERIVED. GIVEN WITH THE SEED: THE CARDS: each row of YtknjmnabibjhfabDoorRows.lean that lists a variable, with what it lists TIED to the program's text (the seventh form; the later family's looks); each row that meets fmt, with fmt's text TOLD by the authors' own Lean function (tested against real Go, not proved from fmt's source: count such statements apart). THE CARD IS WHAT COUNTS. Prove the row's statement (the work); the ties are given (YtknjmnabibjhfabDoorTie.lean); close each card by the builder's one call (the guide's Derived/Test/ToyasCard.lean, 'card_holds'). Laid BY PROGRAM, IN A SANDBOX (cutbox-door.mjs). By AI agents, Wed Nov 11 2026. No macro, syntax, notation, axiom, sorry.
-/
import Derived.Test.YtknjmnabibjhfabDoorRows
import GoSem.ClaimSeven
namespace Go.Proofs.YtknjmnabibjhfabDoor
namespace Rows

/-- THE TIED CARD OF 'manifoldlaw15.LexerNil'. -/
def lexerNilCard : Claim7 := { stood := { row := lexerNilRow, standIns := [], harness := (true, "e60cad73e5c726d756e1b060a5e8bace862669cf0f6feee75e60ba02a56239e0"), looks := false }, kinds := [], alts := [], laidByText := true, laidKinds := [.data, .data, .data, .data, .data], laidTests := true, laidLooks := .later }
def LexerNilCardSaid : Prop := Claim7.holds Tryd.pinned (.plain (OpenSpec.ofChange lexerNilSpec)) lexerNilCard

/-- THE SECOND FORM's CARD OF 'manifoldlaw15.LexerNil'. -/
def lexerNilUptoCard : Claim7 := { stood := { row := lexerNilUptoRow, standIns := [], harness := (true, "e60cad73e5c726d756e1b060a5e8bace862669cf0f6feee75e60ba02a56239e0"), looks := false }, kinds := [], alts := [], laidByText := true, laidKinds := [.data, .data, .data, .data, .data], laidTests := true, laidLooks := .later }
def LexerNilUptoCardSaid : Prop := Claim7.holds Tryd.pinned (.plain (OpenSpec.upto lexerNilSpec)) lexerNilUptoCard
end Rows
end Go.Proofs.YtknjmnabibjhfabDoor
