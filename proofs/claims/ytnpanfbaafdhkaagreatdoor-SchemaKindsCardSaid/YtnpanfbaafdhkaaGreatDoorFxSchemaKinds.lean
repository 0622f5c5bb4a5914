/- SchemaKinds: the closed facts of its row and its card, each by the kernel. No condition. -/
import Derived.Test.YtnpanfbaafdhkaaGreatDoorRows
import Derived.Test.YtnpanfbaafdhkaaGreatDoorCards
import Derived.JoinedOf
import Derived.SevenTiedAt
import Derived.KernelRfl
namespace Go.Proofs.YtnpanfbaafdhkaaGreatDoor.SchemaKindsFx
open Go
theorem k0 : (Rows.schemaKindsRow.wf (OpenSpec.ofChange Rows.schemaKindsSpec)) = true := by kernel_rfl
theorem k1 : (laidOutB Tryz.prog) = true := by kernel_rfl
theorem k2 : (mapsRowed Tryz.prog) = true := by kernel_rfl
theorem k3 : (Tryz.f3.params.all (Tryz.prog.readableRec ·)) = true := by kernel_rfl
theorem k4 : (namedTie Tryz.prog Rows.schemaKindsRow.named Rows.schemaKindsSpec.vars) = true := by kernel_rfl
theorem k5 : ((Rows.schemaKindsRow.stops == [])) = true := by kernel_rfl
theorem k6 : ((Tryz.prog.stops == [])) = true := by kernel_rfl
theorem k7 : ((Rows.schemaKindsRow.knobs == [])) = true := by kernel_rfl
theorem k8 : ((Tryz.prog.stopKnobs == [])) = true := by kernel_rfl
theorem k9 : ((Rows.schemaKindsRow.inPlace == Tryz.prog.inPlace 3)) = true := by kernel_rfl
theorem k10 : ((Rows.schemaKindsRow.unfollowed == Tryz.prog.unfollowed 3)) = true := by kernel_rfl
theorem k11 : ((Rows.schemaKindsRow.recurses == Tryz.prog.recurses 3)) = true := by kernel_rfl
theorem k12 : ((Rows.schemaKindsRow.named == Tryz.prog.varsNamed 3)) = true := by kernel_rfl
theorem k13 : ((Rows.schemaKindsRow.maps == (Tryz.f3.params.toList ++ Rows.schemaKindsSpec.plain.varTypes Tryz.prog).any (Tryz.prog.mapsRec ·))) = true := by kernel_rfl
theorem k14 : ((Rows.schemaKindsRow.ifaces == (Tryz.f3.params.toList ++ Rows.schemaKindsSpec.plain.varTypes Tryz.prog).any (Tryz.prog.ifacesRec ·))) = true := by kernel_rfl
theorem k15 : ((Rows.schemaKindsRow.mapsOut == Tryz.prog.mapsAmong Tryz.f3.resultTypes.toList)) = true := by kernel_rfl
theorem k16 : ((Rows.schemaKindsRow.loops == (Tryz.f3.params.toList ++ Rows.schemaKindsSpec.plain.varTypes Tryz.prog).any (Tryz.prog.loopsFrom ·))) = true := by kernel_rfl
theorem k17 : ((Rows.schemaKindsRow.wideKeys == (Tryz.f3.params.toList ++ Rows.schemaKindsSpec.plain.varTypes Tryz.prog ++ Tryz.f3.resultTypes.toList).any (Tryz.prog.wideKeysFrom ·))) = true := by kernel_rfl
theorem k18 : (Rows.schemaKindsSpec.vars.all (Tryz.prog.varReadable ·)) = true := by kernel_rfl
theorem k19 : (Tryz.f3.resultTypes.all (fun t => Tryz.prog.readableRec t && decide (t < Tryz.prog.types.size))) = true := by kernel_rfl
theorem k20 : ((Rows.schemaKindsRow.ifacesOut == Tryz.f3.resultTypes.toList.any (Tryz.prog.ifacesRec ·))) = true := by kernel_rfl
theorem k21 : ((Rows.schemaKindsRow.loopsOut == Tryz.f3.resultTypes.toList.any (Tryz.prog.loopsFrom ·))) = true := by kernel_rfl
theorem k22 : ((Rows.schemaKindsRow.plainKeys == Tryz.prog.plainKeys)) = true := by kernel_rfl
theorem k23 : (Rows.schemaKindsRow.shortTexts.isNone) = true := by kernel_rfl
theorem k24 : (Tryz.prog.stopsHeard) = true := by kernel_rfl
theorem k25 : (Tryz.prog.mayEnter) = true := by kernel_rfl
theorem k26 : ((Rows.schemaKindsRow.lifted == Tryz.prog.liftsFinal)) = true := by kernel_rfl
theorem k27 : ((Tryz.prog.make == some Rows.schemaKindsRow.make)) = true := by kernel_rfl
theorem k28 : ((Rows.schemaKindsRow.kinds == (if Rows.schemaKindsRow.domain.isEmpty then [] else Tryz.f3.params.toList.map fun t => match Tryz.prog.underlying t with | some (.int k) => some k | _ => none))) = true := by kernel_rfl
theorem k29 : ((Rows.schemaKindsRow.pinned == Rows.schemaKindsRow.pinnedBy)) = true := by kernel_rfl
theorem k30 : ((Rows.schemaKindsRow.veiled == (Tryz.f3.params.toList ++ Rows.schemaKindsSpec.plain.varTypes Tryz.prog ++ Tryz.f3.resultTypes.toList).any (Tryz.prog.veiledRec ·))) = true := by kernel_rfl
theorem k31 : (Rows.schemaKindsRow.veiledFits Tryz.prog Tryz.f3.params.toList (Tryz.f3.params.toList ++ Rows.schemaKindsSpec.plain.varTypes Tryz.prog ++ Tryz.f3.resultTypes.toList)) = true := by kernel_rfl
theorem looks : false = Tryz.prog.looks [] := by kernel_rfl
theorem goes : false = Rows.schemaKindsRow.goesBy Tryz.prog := by kernel_rfl
theorem byText : Rows.schemaKindsRow.wfByText (OpenSpec.ofChange Rows.schemaKindsSpec) = true := by kernel_rfl
theorem main : Tryz.prog.mainIs = some (Rows.schemaKindsCard.stood.harness.1, Rows.schemaKindsCard.stood.harness.2.toList) := by kernel_rfl
end Go.Proofs.YtnpanfbaafdhkaaGreatDoor.SchemaKindsFx
