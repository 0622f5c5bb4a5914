/- FixedwidthCells: the closed facts of its row and its card, each by the kernel. No condition. -/
import Derived.Test.YtcifakhpggoebaaGreatDoorRows
import Derived.Test.YtcifakhpggoebaaGreatDoorCards
import Derived.JoinedOf
import Derived.SevenTiedAt
import Derived.KernelRfl
namespace Go.Proofs.YtcifakhpggoebaaGreatDoor.FixedwidthCellsFx
open Go
theorem k0 : (Rows.fixedwidthCellsRow.wf (OpenSpec.ofChange Rows.fixedwidthCellsSpec)) = true := by kernel_rfl
theorem k1 : (laidOutB Tryz.prog) = true := by kernel_rfl
theorem k2 : (mapsRowed Tryz.prog) = true := by kernel_rfl
theorem k3 : (Tryz.f3.params.all (Tryz.prog.readableRec ·)) = true := by kernel_rfl
theorem k4 : (namedTie Tryz.prog Rows.fixedwidthCellsRow.named Rows.fixedwidthCellsSpec.vars) = true := by kernel_rfl
theorem k5 : ((Rows.fixedwidthCellsRow.stops == [])) = true := by kernel_rfl
theorem k6 : ((Tryz.prog.stops == [])) = true := by kernel_rfl
theorem k7 : ((Rows.fixedwidthCellsRow.knobs == [])) = true := by kernel_rfl
theorem k8 : ((Tryz.prog.stopKnobs == [])) = true := by kernel_rfl
theorem k9 : ((Rows.fixedwidthCellsRow.inPlace == Tryz.prog.inPlace 3)) = true := by kernel_rfl
theorem k10 : ((Rows.fixedwidthCellsRow.unfollowed == Tryz.prog.unfollowed 3)) = true := by kernel_rfl
theorem k11 : ((Rows.fixedwidthCellsRow.recurses == Tryz.prog.recurses 3)) = true := by kernel_rfl
theorem k12 : ((Rows.fixedwidthCellsRow.named == Tryz.prog.varsNamed 3)) = true := by kernel_rfl
theorem k13 : ((Rows.fixedwidthCellsRow.maps == (Tryz.f3.params.toList ++ Rows.fixedwidthCellsSpec.plain.varTypes Tryz.prog).any (Tryz.prog.mapsRec ·))) = true := by kernel_rfl
theorem k14 : ((Rows.fixedwidthCellsRow.ifaces == (Tryz.f3.params.toList ++ Rows.fixedwidthCellsSpec.plain.varTypes Tryz.prog).any (Tryz.prog.ifacesRec ·))) = true := by kernel_rfl
theorem k15 : ((Rows.fixedwidthCellsRow.mapsOut == Tryz.prog.mapsAmong Tryz.f3.resultTypes.toList)) = true := by kernel_rfl
theorem k16 : ((Rows.fixedwidthCellsRow.loops == (Tryz.f3.params.toList ++ Rows.fixedwidthCellsSpec.plain.varTypes Tryz.prog).any (Tryz.prog.loopsFrom ·))) = true := by kernel_rfl
theorem k17 : ((Rows.fixedwidthCellsRow.wideKeys == (Tryz.f3.params.toList ++ Rows.fixedwidthCellsSpec.plain.varTypes Tryz.prog ++ Tryz.f3.resultTypes.toList).any (Tryz.prog.wideKeysFrom ·))) = true := by kernel_rfl
theorem k18 : (Rows.fixedwidthCellsSpec.vars.all (Tryz.prog.varReadable ·)) = true := by kernel_rfl
theorem k19 : (Tryz.f3.resultTypes.all (fun t => Tryz.prog.readableRec t && decide (t < Tryz.prog.types.size))) = true := by kernel_rfl
theorem k20 : ((Rows.fixedwidthCellsRow.ifacesOut == Tryz.f3.resultTypes.toList.any (Tryz.prog.ifacesRec ·))) = true := by kernel_rfl
theorem k21 : ((Rows.fixedwidthCellsRow.loopsOut == Tryz.f3.resultTypes.toList.any (Tryz.prog.loopsFrom ·))) = true := by kernel_rfl
theorem k22 : ((Rows.fixedwidthCellsRow.plainKeys == Tryz.prog.plainKeys)) = true := by kernel_rfl
theorem k23 : (Rows.fixedwidthCellsRow.shortTexts.isNone) = true := by kernel_rfl
theorem k24 : (Tryz.prog.stopsHeard) = true := by kernel_rfl
theorem k25 : (Tryz.prog.mayEnter) = true := by kernel_rfl
theorem k26 : ((Rows.fixedwidthCellsRow.lifted == Tryz.prog.liftsFinal)) = true := by kernel_rfl
theorem k27 : ((Tryz.prog.make == some Rows.fixedwidthCellsRow.make)) = true := by kernel_rfl
theorem k28 : ((Rows.fixedwidthCellsRow.kinds == (if Rows.fixedwidthCellsRow.domain.isEmpty then [] else Tryz.f3.params.toList.map fun t => match Tryz.prog.underlying t with | some (.int k) => some k | _ => none))) = true := by kernel_rfl
theorem k29 : ((Rows.fixedwidthCellsRow.pinned == Rows.fixedwidthCellsRow.pinnedBy)) = true := by kernel_rfl
theorem k30 : ((Rows.fixedwidthCellsRow.veiled == (Tryz.f3.params.toList ++ Rows.fixedwidthCellsSpec.plain.varTypes Tryz.prog ++ Tryz.f3.resultTypes.toList).any (Tryz.prog.veiledRec ·))) = true := by kernel_rfl
theorem k31 : (Rows.fixedwidthCellsRow.veiledFits Tryz.prog Tryz.f3.params.toList (Tryz.f3.params.toList ++ Rows.fixedwidthCellsSpec.plain.varTypes Tryz.prog ++ Tryz.f3.resultTypes.toList)) = true := by kernel_rfl
theorem looks : false = Tryz.prog.looks [] := by kernel_rfl
theorem goes : false = Rows.fixedwidthCellsRow.goesBy Tryz.prog := by kernel_rfl
theorem byText : Rows.fixedwidthCellsRow.wfByText (OpenSpec.ofChange Rows.fixedwidthCellsSpec) = true := by kernel_rfl
theorem main : Tryz.prog.mainIs = some (Rows.fixedwidthCellsCard.stood.harness.1, Rows.fixedwidthCellsCard.stood.harness.2.toList) := by kernel_rfl
end Go.Proofs.YtcifakhpggoebaaGreatDoor.FixedwidthCellsFx
