/-
  DERIVED. GIVEN WITH THE SEED: THE CARDS: each row of YtnpanfbaafdhkaaGreatDoorRows.lean that lists a variable, with what it lists TIED to the program's text (the seventh form; the later family's looks); each row that meets fmt, with fmt's text TOLD by the authors' own Lean function (tested against real Go, not proved from fmt's source: count such statements apart). THE CARD IS WHAT COUNTS. Prove the row's statement (the work); the ties are given (YtnpanfbaafdhkaaGreatDoorTie.lean); close each card by the builder's one call (the guide's Derived/Test/ToyasCard.lean, 'card_holds'). Laid BY PROGRAM, IN A SANDBOX (cutbox-door.mjs). By AI agents, Wed Nov 11 2026. No macro, syntax, notation, axiom, sorry.
-/
import Derived.Test.YtnpanfbaafdhkaaGreatDoorRows
import GoSem.ClaimSeven
namespace Go.Proofs.YtnpanfbaafdhkaaGreatDoor
namespace Rows

/-- THE TIED CARD OF 'manifoldlaw06.SchemaKinds'. -/
def schemaKindsCard : Claim7 := { stood := { row := schemaKindsRow, standIns := [], harness := (true, "7dee6b62a0b36bfee3e55ba9979ea0e5f670f03d02896b553dd987e0b8a6a032"), looks := false }, kinds := [], alts := [], laidByText := true, laidKinds := [.data, .data, .data, .data, .data, .data, .pinned], laidTests := true, laidLooks := .later }
def SchemaKindsCardSaid : Prop := Claim7.holds Tryz.pinned (.plain (OpenSpec.ofChange schemaKindsSpec)) schemaKindsCard

/-- THE SECOND FORM's CARD OF 'manifoldlaw06.SchemaKinds'. -/
def schemaKindsUptoCard : Claim7 := { stood := { row := schemaKindsUptoRow, standIns := [], harness := (true, "7dee6b62a0b36bfee3e55ba9979ea0e5f670f03d02896b553dd987e0b8a6a032"), looks := false }, kinds := [], alts := [], laidByText := true, laidKinds := [.data, .data, .data, .data, .data, .data, .pinned], laidTests := true, laidLooks := .later }
def SchemaKindsUptoCardSaid : Prop := Claim7.holds Tryz.pinned (.plain (OpenSpec.upto schemaKindsSpec)) schemaKindsUptoCard
end Rows
end Go.Proofs.YtnpanfbaafdhkaaGreatDoor
