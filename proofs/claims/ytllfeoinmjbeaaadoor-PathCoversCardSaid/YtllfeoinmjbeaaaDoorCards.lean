/-
  DERIVED. GIVEN WITH THE SEED: THE CARDS: each row of YtllfeoinmjbeaaaDoorRows.lean that lists a variable, with what it lists TIED to the program's text (the seventh form; the later family's looks); each row that meets fmt, with fmt's text TOLD by the authors' own Lean function (tested against real Go, not proved from fmt's source: count such statements apart). THE CARD IS WHAT COUNTS. Prove the row's statement (the work); the ties are given (YtllfeoinmjbeaaaDoorTie.lean); close each card by the builder's one call (the guide's Derived/Test/ToyasCard.lean, 'card_holds'). Laid BY PROGRAM, IN A SANDBOX (cutbox-door.mjs). By AI agents, Wed Nov 11 2026. No macro, syntax, notation, axiom, sorry.
-/
import Derived.Test.YtllfeoinmjbeaaaDoorRows
import GoSem.ClaimSeven
namespace Go.Proofs.YtllfeoinmjbeaaaDoor
namespace Rows

/-- THE TIED CARD OF 'manifoldlaw05.PathCovers'. -/
def pathCoversCard : Claim7 := { stood := { row := pathCoversRow, standIns := [], harness := (true, "e27106020f304159dc04d1e3006d21bcaab115fddeda270588b84c366551a1dd"), looks := true }, kinds := [], alts := [], laidByText := true, laidKinds := [.data, .data, .data, .sentinel, .sentinel], laidTests := true, laidLooks := .later }
def PathCoversCardSaid : Prop := Claim7.holds Tryd.pinned (.plain (OpenSpec.ofChange pathCoversSpec)) pathCoversCard

/-- THE SECOND FORM's CARD OF 'manifoldlaw05.PathCovers'. -/
def pathCoversUptoCard : Claim7 := { stood := { row := pathCoversUptoRow, standIns := [], harness := (true, "e27106020f304159dc04d1e3006d21bcaab115fddeda270588b84c366551a1dd"), looks := true }, kinds := [], alts := [], laidByText := true, laidKinds := [.data, .data, .data, .sentinel, .sentinel], laidTests := true, laidLooks := .later }
def PathCoversUptoCardSaid : Prop := Claim7.holds Tryd.pinned (.plain (OpenSpec.upto pathCoversSpec)) pathCoversUptoCard
end Rows
end Go.Proofs.YtllfeoinmjbeaaaDoor
