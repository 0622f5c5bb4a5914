/-
  DERIVED. GIVEN WITH THE SEED: THE CARDS: each row of YtdkkblkbonjjgaaDoorRows.lean that lists a variable, with what it lists TIED to the program's text (the seventh form; the later family's looks); each row that meets fmt, with fmt's text TOLD by the authors' own Lean function (tested against real Go, not proved from fmt's source: count such statements apart). THE CARD IS WHAT COUNTS. Prove the row's statement (the work); the ties are given (YtdkkblkbonjjgaaDoorTie.lean); close each card by the builder's one call (the guide's Derived/Test/ToyasCard.lean, 'card_holds'). Laid BY PROGRAM, IN A SANDBOX (cutbox-door.mjs). By AI agents, Wed Nov 11 2026. No macro, syntax, notation, axiom, sorry.
-/
import Derived.Test.YtdkkblkbonjjgaaDoorRows
import GoSem.ClaimSeven
namespace Go.Proofs.YtdkkblkbonjjgaaDoor
namespace Rows

/-- THE TIED CARD OF 'manifoldlaw07.FitFlat'. -/
def fitFlatCard : Claim7 := { stood := { row := fitFlatRow, standIns := [], harness := (true, "f0b67b864171a69ff645bcfb1f9f957e6662ae301203fa4cc65180ed595dfd5a"), looks := false }, kinds := [], alts := [], laidByText := true, laidKinds := [.data, .data, .data, .data], laidTests := true, laidLooks := .later }
def FitFlatCardSaid : Prop := Claim7.holds Tryd.pinned (.plain (OpenSpec.ofChange fitFlatSpec)) fitFlatCard

/-- THE SECOND FORM's CARD OF 'manifoldlaw07.FitFlat'. -/
def fitFlatUptoCard : Claim7 := { stood := { row := fitFlatUptoRow, standIns := [], harness := (true, "f0b67b864171a69ff645bcfb1f9f957e6662ae301203fa4cc65180ed595dfd5a"), looks := false }, kinds := [], alts := [], laidByText := true, laidKinds := [.data, .data, .data, .data], laidTests := true, laidLooks := .later }
def FitFlatUptoCardSaid : Prop := Claim7.holds Tryd.pinned (.plain (OpenSpec.upto fitFlatSpec)) fitFlatUptoCard
end Rows
end Go.Proofs.YtdkkblkbonjjgaaDoor
