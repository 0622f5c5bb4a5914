/-
  DERIVED. GIVEN WITH THE SEED: THE CARDS: each row of YtdkkblkbonjjgabGreatDoorRows.lean that lists a variable, with what it lists TIED to the program's text (the seventh form; the later family's looks); each row that meets fmt, with fmt's text TOLD by the authors' own Lean function (tested against real Go, not proved from fmt's source: count such statements apart). THE CARD IS WHAT COUNTS. Prove the row's statement (the work); the ties are given (YtdkkblkbonjjgabGreatDoorTie.lean); close each card by the builder's one call (the guide's Derived/Test/ToyasCard.lean, 'card_holds'). Laid BY PROGRAM, IN A SANDBOX (cutbox-door.mjs). By AI agents, Wed Nov 11 2026. No macro, syntax, notation, axiom, sorry.
-/
import Derived.Test.YtdkkblkbonjjgabGreatDoorRows
import GoSem.ClaimSeven
namespace Go.Proofs.YtdkkblkbonjjgabGreatDoor
namespace Rows

/-- THE TIED CARD OF 'manifoldlaw10.TaggedJoins'. -/
def taggedJoinsCard : Claim7 := { stood := { row := taggedJoinsRow, standIns := [], harness := (true, "debeb3a90ace06bbe1a8961420ac0bbacdc915684dc9d644f7de2fe694c6e1f0"), looks := false }, kinds := [], alts := [], laidByText := true, laidKinds := [.data, .data, .pinned], laidTests := true, laidLooks := .later }
def TaggedJoinsCardSaid : Prop := Claim7.holds Tryz.pinned (.plain (OpenSpec.ofChange taggedJoinsSpec)) taggedJoinsCard

/-- THE SECOND FORM's CARD OF 'manifoldlaw10.TaggedJoins'. -/
def taggedJoinsUptoCard : Claim7 := { stood := { row := taggedJoinsUptoRow, standIns := [], harness := (true, "debeb3a90ace06bbe1a8961420ac0bbacdc915684dc9d644f7de2fe694c6e1f0"), looks := false }, kinds := [], alts := [], laidByText := true, laidKinds := [.data, .data, .pinned], laidTests := true, laidLooks := .later }
def TaggedJoinsUptoCardSaid : Prop := Claim7.holds Tryz.pinned (.plain (OpenSpec.upto taggedJoinsSpec)) taggedJoinsUptoCard
end Rows
end Go.Proofs.YtdkkblkbonjjgabGreatDoor
