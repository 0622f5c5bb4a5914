/-
  DERIVED. GIVEN WITH THE SEED: THE CARDS: each row of YtclhbnmliecgkacGreatDoorRows.lean that lists a variable, with what it lists TIED to the program's text (the seventh form; the later family's looks); each row that meets fmt, with fmt's text TOLD by the authors' own Lean function (tested against real Go, not proved from fmt's source: count such statements apart). THE CARD IS WHAT COUNTS. Prove the row's statement (the work); the ties are given (YtclhbnmliecgkacGreatDoorTie.lean); close each card by the builder's one call (the guide's Derived/Test/ToyasCard.lean, 'card_holds'). Laid BY PROGRAM, IN A SANDBOX (cutbox-door.mjs). By AI agents, Wed Nov 11 2026. No macro, syntax, notation, axiom, sorry.
-/
import Derived.Test.YtclhbnmliecgkacGreatDoorRows
import GoSem.ClaimSeven
namespace Go.Proofs.YtclhbnmliecgkacGreatDoor
namespace Rows

/-- THE TIED CARD OF 'manifoldlaw09.EvolveNames'. -/
def evolveNamesCard : Claim7 := { stood := { row := evolveNamesRow, standIns := [], harness := (true, "8060703eadfbb568395b813f3ce0fe8c56be815a0d2281ed85c1614dcabea754"), looks := false }, kinds := [], alts := [], laidByText := true, laidKinds := [.data, .data, .data, .data, .data, .data, .data, .data, .pinned], laidTests := true, laidLooks := .later }
def EvolveNamesCardSaid : Prop := Claim7.holds Tryz.pinned (.plain (OpenSpec.ofChange evolveNamesSpec)) evolveNamesCard

/-- THE SECOND FORM's CARD OF 'manifoldlaw09.EvolveNames'. -/
def evolveNamesUptoCard : Claim7 := { stood := { row := evolveNamesUptoRow, standIns := [], harness := (true, "8060703eadfbb568395b813f3ce0fe8c56be815a0d2281ed85c1614dcabea754"), looks := false }, kinds := [], alts := [], laidByText := true, laidKinds := [.data, .data, .data, .data, .data, .data, .data, .data, .pinned], laidTests := true, laidLooks := .later }
def EvolveNamesUptoCardSaid : Prop := Claim7.holds Tryz.pinned (.plain (OpenSpec.upto evolveNamesSpec)) evolveNamesUptoCard
end Rows
end Go.Proofs.YtclhbnmliecgkacGreatDoor
