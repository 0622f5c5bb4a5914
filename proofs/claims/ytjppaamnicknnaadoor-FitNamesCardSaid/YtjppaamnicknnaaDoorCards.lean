/-
  DERIVED. GIVEN WITH THE SEED: THE CARDS: each row of YtjppaamnicknnaaDoorRows.lean that lists a variable, with what it lists TIED to the program's text (the seventh form; the later family's looks); each row that meets fmt, with fmt's text TOLD by the authors' own Lean function (tested against real Go, not proved from fmt's source: count such statements apart). THE CARD IS WHAT COUNTS. Prove the row's statement (the work); the ties are given (YtjppaamnicknnaaDoorTie.lean); close each card by the builder's one call (the guide's Derived/Test/ToyasCard.lean, 'card_holds'). Laid BY PROGRAM, IN A SANDBOX (cutbox-door.mjs). By AI agents, Wed Nov 11 2026. No macro, syntax, notation, axiom, sorry.
-/
import Derived.Test.YtjppaamnicknnaaDoorRows
import GoSem.ClaimSeven
namespace Go.Proofs.YtjppaamnicknnaaDoor
namespace Rows

/-- THE TIED CARD OF 'manifoldlaw07.FitNames'. -/
def fitNamesCard : Claim7 := { stood := { row := fitNamesRow, standIns := [], harness := (true, "8339c68c9626ac5e56f065373f62a23608568a13792c3b71b45e366f690771b8"), looks := false }, kinds := [], alts := [], laidByText := true, laidKinds := [.data, .data, .data, .data, .data], laidTests := true, laidLooks := .later }
def FitNamesCardSaid : Prop := Claim7.holds Tryd.pinned (.plain (OpenSpec.ofChange fitNamesSpec)) fitNamesCard

/-- THE TIED CARD OF 'manifoldlaw07.FitLimit'. -/
def fitLimitCard : Claim7 := { stood := { row := fitLimitRow, standIns := [], harness := (true, "8339c68c9626ac5e56f065373f62a23608568a13792c3b71b45e366f690771b8"), looks := false }, kinds := [], alts := [], laidByText := true, laidKinds := [.data, .data, .data, .data], laidTests := true, laidLooks := .later }
def FitLimitCardSaid : Prop := Claim7.holds Tryd.pinned (.plain (OpenSpec.ofChange fitLimitSpec)) fitLimitCard

/-- THE SECOND FORM's CARD OF 'manifoldlaw07.FitNames'. -/
def fitNamesUptoCard : Claim7 := { stood := { row := fitNamesUptoRow, standIns := [], harness := (true, "8339c68c9626ac5e56f065373f62a23608568a13792c3b71b45e366f690771b8"), looks := false }, kinds := [], alts := [], laidByText := true, laidKinds := [.data, .data, .data, .data, .data], laidTests := true, laidLooks := .later }
def FitNamesUptoCardSaid : Prop := Claim7.holds Tryd.pinned (.plain (OpenSpec.upto fitNamesSpec)) fitNamesUptoCard

/-- THE SECOND FORM's CARD OF 'manifoldlaw07.FitLimit'. -/
def fitLimitUptoCard : Claim7 := { stood := { row := fitLimitUptoRow, standIns := [], harness := (true, "8339c68c9626ac5e56f065373f62a23608568a13792c3b71b45e366f690771b8"), looks := false }, kinds := [], alts := [], laidByText := true, laidKinds := [.data, .data, .data, .data], laidTests := true, laidLooks := .later }
def FitLimitUptoCardSaid : Prop := Claim7.holds Tryd.pinned (.plain (OpenSpec.upto fitLimitSpec)) fitLimitUptoCard
end Rows
end Go.Proofs.YtjppaamnicknnaaDoor
