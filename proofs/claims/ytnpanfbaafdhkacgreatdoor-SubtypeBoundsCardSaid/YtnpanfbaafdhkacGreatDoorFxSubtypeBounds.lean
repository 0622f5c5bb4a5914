/- SubtypeBounds: the closed facts of its row and its card, each by the kernel. No condition. -/
import Derived.Test.YtnpanfbaafdhkacGreatDoorRows
import Derived.Test.YtnpanfbaafdhkacGreatDoorCards
import Derived.JoinedOf
import Derived.SevenTiedAt
import Derived.KernelRfl
namespace Go.Proofs.YtnpanfbaafdhkacGreatDoor.SubtypeBoundsFx
open Go
theorem k0 : (Rows.subtypeBoundsRow.wf (OpenSpec.ofChange Rows.subtypeBoundsSpec)) = true := by kernel_rfl
theorem k1 : (laidOutB Tryz.prog) = true := by kernel_rfl
theorem k2 : (mapsRowed Tryz.prog) = true := by kernel_rfl
theorem k3 : (Tryz.f3.params.all (Tryz.prog.readableRec ·)) = true := by kernel_rfl
theorem k4 : (namedTie Tryz.prog Rows.subtypeBoundsRow.named Rows.subtypeBoundsSpec.vars) = true := by kernel_rfl
theorem k5 : ((Rows.subtypeBoundsRow.stops == [])) = true := by kernel_rfl
theorem k6 : ((Tryz.prog.stops == [])) = true := by kernel_rfl
theorem k7 : ((Rows.subtypeBoundsRow.knobs == [])) = true := by kernel_rfl
theorem k8 : ((Tryz.prog.stopKnobs == [])) = true := by kernel_rfl
theorem k9 : ((Rows.subtypeBoundsRow.inPlace == Tryz.prog.inPlace 3)) = true := by kernel_rfl
theorem k10 : ((Rows.subtypeBoundsRow.unfollowed == Tryz.prog.unfollowed 3)) = true := by kernel_rfl
theorem k11 : ((Rows.subtypeBoundsRow.recurses == Tryz.prog.recurses 3)) = true := by kernel_rfl
theorem k12 : ((Rows.subtypeBoundsRow.named == Tryz.prog.varsNamed 3)) = true := by kernel_rfl
theorem k13 : ((Rows.subtypeBoundsRow.maps == (Tryz.f3.params.toList ++ Rows.subtypeBoundsSpec.plain.varTypes Tryz.prog).any (Tryz.prog.mapsRec ·))) = true := by kernel_rfl
theorem k14 : ((Rows.subtypeBoundsRow.ifaces == (Tryz.f3.params.toList ++ Rows.subtypeBoundsSpec.plain.varTypes Tryz.prog).any (Tryz.prog.ifacesRec ·))) = true := by kernel_rfl
theorem k15 : ((Rows.subtypeBoundsRow.mapsOut == Tryz.prog.mapsAmong Tryz.f3.resultTypes.toList)) = true := by kernel_rfl
theorem k16 : ((Rows.subtypeBoundsRow.loops == (Tryz.f3.params.toList ++ Rows.subtypeBoundsSpec.plain.varTypes Tryz.prog).any (Tryz.prog.loopsFrom ·))) = true := by kernel_rfl
theorem k17 : ((Rows.subtypeBoundsRow.wideKeys == (Tryz.f3.params.toList ++ Rows.subtypeBoundsSpec.plain.varTypes Tryz.prog ++ Tryz.f3.resultTypes.toList).any (Tryz.prog.wideKeysFrom ·))) = true := by kernel_rfl
theorem k18 : (Rows.subtypeBoundsSpec.vars.all (Tryz.prog.varReadable ·)) = true := by kernel_rfl
theorem k19 : (Tryz.f3.resultTypes.all (fun t => Tryz.prog.readableRec t && decide (t < Tryz.prog.types.size))) = true := by kernel_rfl
theorem k20 : ((Rows.subtypeBoundsRow.ifacesOut == Tryz.f3.resultTypes.toList.any (Tryz.prog.ifacesRec ·))) = true := by kernel_rfl
theorem k21 : ((Rows.subtypeBoundsRow.loopsOut == Tryz.f3.resultTypes.toList.any (Tryz.prog.loopsFrom ·))) = true := by kernel_rfl
theorem k22 : ((Rows.subtypeBoundsRow.plainKeys == Tryz.prog.plainKeys)) = true := by kernel_rfl
theorem k23 : (Rows.subtypeBoundsRow.shortTexts.isNone) = true := by kernel_rfl
theorem k24 : (Tryz.prog.stopsHeard) = true := by kernel_rfl
theorem k25 : (Tryz.prog.mayEnter) = true := by kernel_rfl
theorem k26 : ((Rows.subtypeBoundsRow.lifted == Tryz.prog.liftsFinal)) = true := by kernel_rfl
theorem k27 : ((Tryz.prog.make == some Rows.subtypeBoundsRow.make)) = true := by kernel_rfl
theorem k28 : ((Rows.subtypeBoundsRow.kinds == (if Rows.subtypeBoundsRow.domain.isEmpty then [] else Tryz.f3.params.toList.map fun t => match Tryz.prog.underlying t with | some (.int k) => some k | _ => none))) = true := by kernel_rfl
theorem k29 : ((Rows.subtypeBoundsRow.pinned == Rows.subtypeBoundsRow.pinnedBy)) = true := by kernel_rfl
theorem k30 : ((Rows.subtypeBoundsRow.veiled == (Tryz.f3.params.toList ++ Rows.subtypeBoundsSpec.plain.varTypes Tryz.prog ++ Tryz.f3.resultTypes.toList).any (Tryz.prog.veiledRec ·))) = true := by kernel_rfl
theorem k31 : (Rows.subtypeBoundsRow.veiledFits Tryz.prog Tryz.f3.params.toList (Tryz.f3.params.toList ++ Rows.subtypeBoundsSpec.plain.varTypes Tryz.prog ++ Tryz.f3.resultTypes.toList)) = true := by kernel_rfl
theorem looks : false = Tryz.prog.looks [] := by kernel_rfl
theorem goes : false = Rows.subtypeBoundsRow.goesBy Tryz.prog := by kernel_rfl
theorem byText : Rows.subtypeBoundsRow.wfByText (OpenSpec.ofChange Rows.subtypeBoundsSpec) = true := by kernel_rfl
theorem main : Tryz.prog.mainIs = some (Rows.subtypeBoundsCard.stood.harness.1, Rows.subtypeBoundsCard.stood.harness.2.toList) := by kernel_rfl
end Go.Proofs.YtnpanfbaafdhkacGreatDoor.SubtypeBoundsFx
