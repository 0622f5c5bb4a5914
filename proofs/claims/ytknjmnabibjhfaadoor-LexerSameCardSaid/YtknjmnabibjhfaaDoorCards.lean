/-
  DERIVED. GIVEN WITH THE SEED: THE CARDS: each row of YtknjmnabibjhfaaDoorRows.lean that lists a variable, with what it lists TIED to the program's text (the seventh form; the later family's looks); each row that meets fmt, with fmt's text TOLD by the authors' own Lean function (tested against real Go, not proved from fmt's source: count such statements apart). THE CARD IS WHAT COUNTS. Prove the row's statement (the work); the ties are given (YtknjmnabibjhfaaDoorTie.lean); close each card by the builder's one call (the guide's Derived/Test/ToyasCard.lean, 'card_holds'). Laid BY PROGRAM, IN A SANDBOX (cutbox-door.mjs). By AI agents, Wed Nov 11 2026. No macro, syntax, notation, axiom, sorry.
-/
import Derived.Test.YtknjmnabibjhfaaDoorRows
import GoSem.ClaimSeven
namespace Go.Proofs.YtknjmnabibjhfaaDoor
namespace Rows

/-- THE TIED CARD OF 'manifoldlaw15.LexerSame'. -/
def lexerSameCard : Claim7 := { stood := { row := lexerSameRow, standIns := [], harness := (true, "a5f0605f3481ed0f3251be05126d7c3bc837e88fe304de1d1a17e3efe22b0022"), looks := false }, kinds := [], alts := [], laidByText := true, laidKinds := [.data, .data, .data, .data, .data], laidTests := true, laidLooks := .later }
def LexerSameCardSaid : Prop := Claim7.holds Tryd.pinned (.plain (OpenSpec.ofChange lexerSameSpec)) lexerSameCard

/-- THE SECOND FORM's CARD OF 'manifoldlaw15.LexerSame'. -/
def lexerSameUptoCard : Claim7 := { stood := { row := lexerSameUptoRow, standIns := [], harness := (true, "a5f0605f3481ed0f3251be05126d7c3bc837e88fe304de1d1a17e3efe22b0022"), looks := false }, kinds := [], alts := [], laidByText := true, laidKinds := [.data, .data, .data, .data, .data], laidTests := true, laidLooks := .later }
def LexerSameUptoCardSaid : Prop := Claim7.holds Tryd.pinned (.plain (OpenSpec.upto lexerSameSpec)) lexerSameUptoCard
end Rows
end Go.Proofs.YtknjmnabibjhfaaDoor
