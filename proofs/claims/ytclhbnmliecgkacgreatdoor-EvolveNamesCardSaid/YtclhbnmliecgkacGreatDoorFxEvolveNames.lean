/- EvolveNames: the closed facts of its row and its card, each by the kernel. No condition. -/
import Derived.Test.YtclhbnmliecgkacGreatDoorRows
import Derived.Test.YtclhbnmliecgkacGreatDoorCards
import Derived.JoinedOf
import Derived.SevenTiedAt
import Derived.KernelRfl
namespace Go.Proofs.YtclhbnmliecgkacGreatDoor.EvolveNamesFx
open Go
theorem k0 : (Rows.evolveNamesRow.wf (OpenSpec.ofChange Rows.evolveNamesSpec)) = true := by kernel_rfl
theorem k1 : (laidOutB Tryz.prog) = true := by kernel_rfl
theorem k2 : (mapsRowed Tryz.prog) = true := by kernel_rfl
theorem k3 : (Tryz.f3.params.all (Tryz.prog.readableRec ·)) = true := by kernel_rfl
theorem k4 : (namedTie Tryz.prog Rows.evolveNamesRow.named Rows.evolveNamesSpec.vars) = true := by kernel_rfl
theorem k5 : ((Rows.evolveNamesRow.stops == [])) = true := by kernel_rfl
theorem k6 : ((Tryz.prog.stops == [])) = true := by kernel_rfl
theorem k7 : ((Rows.evolveNamesRow.knobs == [])) = true := by kernel_rfl
theorem k8 : ((Tryz.prog.stopKnobs == [])) = true := by kernel_rfl
theorem k9 : ((Rows.evolveNamesRow.inPlace == Tryz.prog.inPlace 3)) = true := by kernel_rfl
theorem k10 : ((Rows.evolveNamesRow.unfollowed == Tryz.prog.unfollowed 3)) = true := by kernel_rfl
theorem k11 : ((Rows.evolveNamesRow.recurses == Tryz.prog.recurses 3)) = true := by kernel_rfl
theorem k12 : ((Rows.evolveNamesRow.named == Tryz.prog.varsNamed 3)) = true := by kernel_rfl
theorem k13 : ((Rows.evolveNamesRow.maps == (Tryz.f3.params.toList ++ Rows.evolveNamesSpec.plain.varTypes Tryz.prog).any (Tryz.prog.mapsRec ·))) = true := by kernel_rfl
theorem k14 : ((Rows.evolveNamesRow.ifaces == (Tryz.f3.params.toList ++ Rows.evolveNamesSpec.plain.varTypes Tryz.prog).any (Tryz.prog.ifacesRec ·))) = true := by kernel_rfl
theorem k15 : ((Rows.evolveNamesRow.mapsOut == Tryz.prog.mapsAmong Tryz.f3.resultTypes.toList)) = true := by kernel_rfl
theorem k16 : ((Rows.evolveNamesRow.loops == (Tryz.f3.params.toList ++ Rows.evolveNamesSpec.plain.varTypes Tryz.prog).any (Tryz.prog.loopsFrom ·))) = true := by kernel_rfl
theorem k17 : ((Rows.evolveNamesRow.wideKeys == (Tryz.f3.params.toList ++ Rows.evolveNamesSpec.plain.varTypes Tryz.prog ++ Tryz.f3.resultTypes.toList).any (Tryz.prog.wideKeysFrom ·))) = true := by kernel_rfl
theorem k18 : (Rows.evolveNamesSpec.vars.all (Tryz.prog.varReadable ·)) = true := by kernel_rfl
theorem k19 : (Tryz.f3.resultTypes.all (fun t => Tryz.prog.readableRec t && decide (t < Tryz.prog.types.size))) = true := by kernel_rfl
theorem k20 : ((Rows.evolveNamesRow.ifacesOut == Tryz.f3.resultTypes.toList.any (Tryz.prog.ifacesRec ·))) = true := by kernel_rfl
theorem k21 : ((Rows.evolveNamesRow.loopsOut == Tryz.f3.resultTypes.toList.any (Tryz.prog.loopsFrom ·))) = true := by kernel_rfl
theorem k22 : ((Rows.evolveNamesRow.plainKeys == Tryz.prog.plainKeys)) = true := by kernel_rfl
theorem k23 : (Rows.evolveNamesRow.shortTexts.isNone) = true := by kernel_rfl
theorem k24 : (Tryz.prog.stopsHeard) = true := by kernel_rfl
theorem k25 : (Tryz.prog.mayEnter) = true := by kernel_rfl
theorem k26 : ((Rows.evolveNamesRow.lifted == Tryz.prog.liftsFinal)) = true := by kernel_rfl
theorem k27 : ((Tryz.prog.make == some Rows.evolveNamesRow.make)) = true := by kernel_rfl
theorem k28 : ((Rows.evolveNamesRow.kinds == (if Rows.evolveNamesRow.domain.isEmpty then [] else Tryz.f3.params.toList.map fun t => match Tryz.prog.underlying t with | some (.int k) => some k | _ => none))) = true := by kernel_rfl
theorem k29 : ((Rows.evolveNamesRow.pinned == Rows.evolveNamesRow.pinnedBy)) = true := by kernel_rfl
theorem k30 : ((Rows.evolveNamesRow.veiled == (Tryz.f3.params.toList ++ Rows.evolveNamesSpec.plain.varTypes Tryz.prog ++ Tryz.f3.resultTypes.toList).any (Tryz.prog.veiledRec ·))) = true := by kernel_rfl
theorem k31 : (Rows.evolveNamesRow.veiledFits Tryz.prog Tryz.f3.params.toList (Tryz.f3.params.toList ++ Rows.evolveNamesSpec.plain.varTypes Tryz.prog ++ Tryz.f3.resultTypes.toList)) = true := by kernel_rfl
theorem looks : false = Tryz.prog.looks [] := by kernel_rfl
theorem goes : false = Rows.evolveNamesRow.goesBy Tryz.prog := by kernel_rfl
theorem byText : Rows.evolveNamesRow.wfByText (OpenSpec.ofChange Rows.evolveNamesSpec) = true := by kernel_rfl
theorem main : Tryz.prog.mainIs = some (Rows.evolveNamesCard.stood.harness.1, Rows.evolveNamesCard.stood.harness.2.toList) := by kernel_rfl
end Go.Proofs.YtclhbnmliecgkacGreatDoor.EvolveNamesFx
