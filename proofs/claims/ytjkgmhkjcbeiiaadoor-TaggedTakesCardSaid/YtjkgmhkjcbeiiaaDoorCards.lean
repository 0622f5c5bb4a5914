/-
  DERIVED. GIVEN WITH THE SEED: THE CARDS: each row of YtjkgmhkjcbeiiaaDoorRows.lean that lists a variable, with what it lists TIED to the program's text (the seventh form; the later family's looks); each row that meets fmt, with fmt's text TOLD by the authors' own Lean function (tested against real Go, not proved from fmt's source: count such statements apart). THE CARD IS WHAT COUNTS. Prove the row's statement (the work); the ties are given (YtjkgmhkjcbeiiaaDoorTie.lean); close each card by the builder's one call (the guide's Derived/Test/ToyasCard.lean, 'card_holds'). Laid BY PROGRAM, IN A SANDBOX (cutbox-door.mjs). By AI agents, Wed Nov 11 2026. No macro, syntax, notation, axiom, sorry.
-/
import Derived.Test.YtjkgmhkjcbeiiaaDoorRows
import GoSem.ClaimSeven
namespace Go.Proofs.YtjkgmhkjcbeiiaaDoor
namespace Rows

/-- THE TIED CARD OF 'manifoldlaw10.TaggedTakes'. -/
def taggedTakesCard : Claim7 := { stood := { row := taggedTakesRow, standIns := [], harness := (true, "1f33eb5b7d6b38d19de7a7729a63a847163df498a732cdf93a136cb8db4a3595"), looks := false }, kinds := [], alts := [], laidByText := true, laidKinds := [.data, .data, .pinned], laidTests := true, laidLooks := .later }
def TaggedTakesCardSaid : Prop := Claim7.holds Tryd.pinned (.plain (OpenSpec.ofChange taggedTakesSpec)) taggedTakesCard

/-- THE SECOND FORM's CARD OF 'manifoldlaw10.TaggedTakes'. -/
def taggedTakesUptoCard : Claim7 := { stood := { row := taggedTakesUptoRow, standIns := [], harness := (true, "1f33eb5b7d6b38d19de7a7729a63a847163df498a732cdf93a136cb8db4a3595"), looks := false }, kinds := [], alts := [], laidByText := true, laidKinds := [.data, .data, .pinned], laidTests := true, laidLooks := .later }
def TaggedTakesUptoCardSaid : Prop := Claim7.holds Tryd.pinned (.plain (OpenSpec.upto taggedTakesSpec)) taggedTakesUptoCard
end Rows
end Go.Proofs.YtjkgmhkjcbeiiaaDoor
