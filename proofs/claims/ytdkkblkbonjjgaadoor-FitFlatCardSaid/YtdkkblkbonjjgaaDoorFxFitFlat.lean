/- FitFlat: the closed facts of its row and its card, each by the kernel. No condition. -/
import Derived.Test.YtdkkblkbonjjgaaDoorRows
import Derived.Test.YtdkkblkbonjjgaaDoorCards
import Derived.JoinedOf
import Derived.SevenTiedAt
import Derived.KernelRfl
namespace Go.Proofs.YtdkkblkbonjjgaaDoor.FitFlatFx
open Go
theorem k0 : (Rows.fitFlatRow.wf (OpenSpec.ofChange Rows.fitFlatSpec)) = true := by kernel_rfl
theorem k1 : (laidOutB Tryd.prog) = true := by kernel_rfl
theorem k2 : (mapsRowed Tryd.prog) = true := by kernel_rfl
theorem k3 : (Tryd.f3.params.all (Tryd.prog.readableRec ·)) = true := by kernel_rfl
theorem k4 : (namedTie Tryd.prog Rows.fitFlatRow.named Rows.fitFlatSpec.vars) = true := by kernel_rfl
theorem k5 : ((Rows.fitFlatRow.stops == [])) = true := by kernel_rfl
theorem k6 : ((Tryd.prog.stops == [])) = true := by kernel_rfl
theorem k7 : ((Rows.fitFlatRow.knobs == [])) = true := by kernel_rfl
theorem k8 : ((Tryd.prog.stopKnobs == [])) = true := by kernel_rfl
theorem k9 : ((Rows.fitFlatRow.inPlace == Tryd.prog.inPlace 3)) = true := by kernel_rfl
theorem k10 : ((Rows.fitFlatRow.unfollowed == Tryd.prog.unfollowed 3)) = true := by kernel_rfl
theorem k11 : ((Rows.fitFlatRow.recurses == Tryd.prog.recurses 3)) = true := by kernel_rfl
theorem k12 : ((Rows.fitFlatRow.named == Tryd.prog.varsNamed 3)) = true := by kernel_rfl
theorem k13 : ((Rows.fitFlatRow.maps == (Tryd.f3.params.toList ++ Rows.fitFlatSpec.plain.varTypes Tryd.prog).any (Tryd.prog.mapsRec ·))) = true := by kernel_rfl
theorem k14 : ((Rows.fitFlatRow.ifaces == (Tryd.f3.params.toList ++ Rows.fitFlatSpec.plain.varTypes Tryd.prog).any (Tryd.prog.ifacesRec ·))) = true := by kernel_rfl
theorem k15 : ((Rows.fitFlatRow.mapsOut == Tryd.prog.mapsAmong Tryd.f3.resultTypes.toList)) = true := by kernel_rfl
theorem k16 : ((Rows.fitFlatRow.loops == (Tryd.f3.params.toList ++ Rows.fitFlatSpec.plain.varTypes Tryd.prog).any (Tryd.prog.loopsFrom ·))) = true := by kernel_rfl
theorem k17 : ((Rows.fitFlatRow.wideKeys == (Tryd.f3.params.toList ++ Rows.fitFlatSpec.plain.varTypes Tryd.prog ++ Tryd.f3.resultTypes.toList).any (Tryd.prog.wideKeysFrom ·))) = true := by kernel_rfl
theorem k18 : (Rows.fitFlatSpec.vars.all (Tryd.prog.varReadable ·)) = true := by kernel_rfl
theorem k19 : (Tryd.f3.resultTypes.all (fun t => Tryd.prog.readableRec t && decide (t < Tryd.prog.types.size))) = true := by kernel_rfl
theorem k20 : ((Rows.fitFlatRow.ifacesOut == Tryd.f3.resultTypes.toList.any (Tryd.prog.ifacesRec ·))) = true := by kernel_rfl
theorem k21 : ((Rows.fitFlatRow.loopsOut == Tryd.f3.resultTypes.toList.any (Tryd.prog.loopsFrom ·))) = true := by kernel_rfl
theorem k22 : ((Rows.fitFlatRow.plainKeys == Tryd.prog.plainKeys)) = true := by kernel_rfl
theorem k23 : (Rows.fitFlatRow.shortTexts.isNone) = true := by kernel_rfl
theorem k24 : (Tryd.prog.stopsHeard) = true := by kernel_rfl
theorem k25 : (Tryd.prog.mayEnter) = true := by kernel_rfl
theorem k26 : ((Rows.fitFlatRow.lifted == Tryd.prog.liftsFinal)) = true := by kernel_rfl
theorem k27 : ((Tryd.prog.make == some Rows.fitFlatRow.make)) = true := by kernel_rfl
theorem k28 : ((Rows.fitFlatRow.kinds == (if Rows.fitFlatRow.domain.isEmpty then [] else Tryd.f3.params.toList.map fun t => match Tryd.prog.underlying t with | some (.int k) => some k | _ => none))) = true := by kernel_rfl
theorem k29 : ((Rows.fitFlatRow.pinned == Rows.fitFlatRow.pinnedBy)) = true := by kernel_rfl
theorem k30 : ((Rows.fitFlatRow.veiled == (Tryd.f3.params.toList ++ Rows.fitFlatSpec.plain.varTypes Tryd.prog ++ Tryd.f3.resultTypes.toList).any (Tryd.prog.veiledRec ·))) = true := by kernel_rfl
theorem k31 : (Rows.fitFlatRow.veiledFits Tryd.prog Tryd.f3.params.toList (Tryd.f3.params.toList ++ Rows.fitFlatSpec.plain.varTypes Tryd.prog ++ Tryd.f3.resultTypes.toList)) = true := by kernel_rfl
theorem looks : false = Tryd.prog.looks [] := by kernel_rfl
theorem goes : false = Rows.fitFlatRow.goesBy Tryd.prog := by kernel_rfl
theorem byText : Rows.fitFlatRow.wfByText (OpenSpec.ofChange Rows.fitFlatSpec) = true := by kernel_rfl
theorem main : Tryd.prog.mainIs = some (Rows.fitFlatCard.stood.harness.1, Rows.fitFlatCard.stood.harness.2.toList) := by kernel_rfl
end Go.Proofs.YtdkkblkbonjjgaaDoor.FitFlatFx
