/- DelimitedSeparators: the closed facts of its row and its card, each by the kernel. No condition. -/
import Derived.Test.YtfgbcdigfgihaaaGreatDoorRows
import Derived.Test.YtfgbcdigfgihaaaGreatDoorCards
import Derived.JoinedOf
import Derived.SevenTiedAt
import Derived.KernelRfl
namespace Go.Proofs.YtfgbcdigfgihaaaGreatDoor.DelimitedSeparatorsFx
open Go
theorem k0 : (Rows.delimitedSeparatorsRow.wf (OpenSpec.ofChange Rows.delimitedSeparatorsSpec)) = true := by kernel_rfl
theorem k1 : (laidOutB Tryz.prog) = true := by kernel_rfl
theorem k2 : (mapsRowed Tryz.prog) = true := by kernel_rfl
theorem k3 : (Tryz.f3.params.all (Tryz.prog.readableRec ·)) = true := by kernel_rfl
theorem k4 : (namedTie Tryz.prog Rows.delimitedSeparatorsRow.named Rows.delimitedSeparatorsSpec.vars) = true := by kernel_rfl
theorem k5 : ((Rows.delimitedSeparatorsRow.stops == [])) = true := by kernel_rfl
theorem k6 : ((Tryz.prog.stops == [])) = true := by kernel_rfl
theorem k7 : ((Rows.delimitedSeparatorsRow.knobs == [])) = true := by kernel_rfl
theorem k8 : ((Tryz.prog.stopKnobs == [])) = true := by kernel_rfl
theorem k9 : ((Rows.delimitedSeparatorsRow.inPlace == Tryz.prog.inPlace 3)) = true := by kernel_rfl
theorem k10 : ((Rows.delimitedSeparatorsRow.unfollowed == Tryz.prog.unfollowed 3)) = true := by kernel_rfl
theorem k11 : ((Rows.delimitedSeparatorsRow.recurses == Tryz.prog.recurses 3)) = true := by kernel_rfl
theorem k12 : ((Rows.delimitedSeparatorsRow.named == Tryz.prog.varsNamed 3)) = true := by kernel_rfl
theorem k13 : ((Rows.delimitedSeparatorsRow.maps == (Tryz.f3.params.toList ++ Rows.delimitedSeparatorsSpec.plain.varTypes Tryz.prog).any (Tryz.prog.mapsRec ·))) = true := by kernel_rfl
theorem k14 : ((Rows.delimitedSeparatorsRow.ifaces == (Tryz.f3.params.toList ++ Rows.delimitedSeparatorsSpec.plain.varTypes Tryz.prog).any (Tryz.prog.ifacesRec ·))) = true := by kernel_rfl
theorem k15 : ((Rows.delimitedSeparatorsRow.mapsOut == Tryz.prog.mapsAmong Tryz.f3.resultTypes.toList)) = true := by kernel_rfl
theorem k16 : ((Rows.delimitedSeparatorsRow.loops == (Tryz.f3.params.toList ++ Rows.delimitedSeparatorsSpec.plain.varTypes Tryz.prog).any (Tryz.prog.loopsFrom ·))) = true := by kernel_rfl
theorem k17 : ((Rows.delimitedSeparatorsRow.wideKeys == (Tryz.f3.params.toList ++ Rows.delimitedSeparatorsSpec.plain.varTypes Tryz.prog ++ Tryz.f3.resultTypes.toList).any (Tryz.prog.wideKeysFrom ·))) = true := by kernel_rfl
theorem k18 : (Rows.delimitedSeparatorsSpec.vars.all (Tryz.prog.varReadable ·)) = true := by kernel_rfl
theorem k19 : (Tryz.f3.resultTypes.all (fun t => Tryz.prog.readableRec t && decide (t < Tryz.prog.types.size))) = true := by kernel_rfl
theorem k20 : ((Rows.delimitedSeparatorsRow.ifacesOut == Tryz.f3.resultTypes.toList.any (Tryz.prog.ifacesRec ·))) = true := by kernel_rfl
theorem k21 : ((Rows.delimitedSeparatorsRow.loopsOut == Tryz.f3.resultTypes.toList.any (Tryz.prog.loopsFrom ·))) = true := by kernel_rfl
theorem k22 : ((Rows.delimitedSeparatorsRow.plainKeys == Tryz.prog.plainKeys)) = true := by kernel_rfl
theorem k23 : (Rows.delimitedSeparatorsRow.shortTexts.isNone) = true := by kernel_rfl
theorem k24 : (Tryz.prog.stopsHeard) = true := by kernel_rfl
theorem k25 : (Tryz.prog.mayEnter) = true := by kernel_rfl
theorem k26 : ((Rows.delimitedSeparatorsRow.lifted == Tryz.prog.liftsFinal)) = true := by kernel_rfl
theorem k27 : ((Tryz.prog.make == some Rows.delimitedSeparatorsRow.make)) = true := by kernel_rfl
theorem k28 : ((Rows.delimitedSeparatorsRow.kinds == (if Rows.delimitedSeparatorsRow.domain.isEmpty then [] else Tryz.f3.params.toList.map fun t => match Tryz.prog.underlying t with | some (.int k) => some k | _ => none))) = true := by kernel_rfl
theorem k29 : ((Rows.delimitedSeparatorsRow.pinned == Rows.delimitedSeparatorsRow.pinnedBy)) = true := by kernel_rfl
theorem k30 : ((Rows.delimitedSeparatorsRow.veiled == (Tryz.f3.params.toList ++ Rows.delimitedSeparatorsSpec.plain.varTypes Tryz.prog ++ Tryz.f3.resultTypes.toList).any (Tryz.prog.veiledRec ·))) = true := by kernel_rfl
theorem k31 : (Rows.delimitedSeparatorsRow.veiledFits Tryz.prog Tryz.f3.params.toList (Tryz.f3.params.toList ++ Rows.delimitedSeparatorsSpec.plain.varTypes Tryz.prog ++ Tryz.f3.resultTypes.toList)) = true := by kernel_rfl
theorem looks : false = Tryz.prog.looks [] := by kernel_rfl
theorem goes : false = Rows.delimitedSeparatorsRow.goesBy Tryz.prog := by kernel_rfl
theorem byText : Rows.delimitedSeparatorsRow.wfByText (OpenSpec.ofChange Rows.delimitedSeparatorsSpec) = true := by kernel_rfl
theorem main : Tryz.prog.mainIs = some (Rows.delimitedSeparatorsCard.stood.harness.1, Rows.delimitedSeparatorsCard.stood.harness.2.toList) := by kernel_rfl
end Go.Proofs.YtfgbcdigfgihaaaGreatDoor.DelimitedSeparatorsFx
