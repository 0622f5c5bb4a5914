/- PathCovers: the closed facts of its row and its card, each by the kernel. No condition. -/
import Derived.Test.YtllfeoinmjbeaaaDoorRows
import Derived.Test.YtllfeoinmjbeaaaDoorCards
import Derived.JoinedOf
import Derived.SevenTiedAt
import Derived.KernelRfl
namespace Go.Proofs.YtllfeoinmjbeaaaDoor.PathCoversFx
open Go
theorem k0 : (Rows.pathCoversRow.wf (OpenSpec.ofChange Rows.pathCoversSpec)) = true := by kernel_rfl
theorem k1 : (laidOutB Tryd.prog) = true := by kernel_rfl
theorem k2 : (mapsRowed Tryd.prog) = true := by kernel_rfl
theorem k3 : (Tryd.f3.params.all (Tryd.prog.readableRec ·)) = true := by kernel_rfl
theorem k4 : (namedTie Tryd.prog Rows.pathCoversRow.named Rows.pathCoversSpec.vars) = true := by kernel_rfl
theorem k5 : ((Rows.pathCoversRow.stops == [])) = true := by kernel_rfl
theorem k6 : ((Tryd.prog.stops == [])) = true := by kernel_rfl
theorem k7 : ((Rows.pathCoversRow.knobs == [])) = true := by kernel_rfl
theorem k8 : ((Tryd.prog.stopKnobs == [])) = true := by kernel_rfl
theorem k9 : ((Rows.pathCoversRow.inPlace == Tryd.prog.inPlace 3)) = true := by kernel_rfl
theorem k10 : ((Rows.pathCoversRow.unfollowed == Tryd.prog.unfollowed 3)) = true := by kernel_rfl
theorem k11 : ((Rows.pathCoversRow.recurses == Tryd.prog.recurses 3)) = true := by kernel_rfl
theorem k12 : ((Rows.pathCoversRow.named == Tryd.prog.varsNamed 3)) = true := by kernel_rfl
theorem k13 : ((Rows.pathCoversRow.maps == (Tryd.f3.params.toList ++ Rows.pathCoversSpec.plain.varTypes Tryd.prog).any (Tryd.prog.mapsRec ·))) = true := by kernel_rfl
theorem k14 : ((Rows.pathCoversRow.ifaces == (Tryd.f3.params.toList ++ Rows.pathCoversSpec.plain.varTypes Tryd.prog).any (Tryd.prog.ifacesRec ·))) = true := by kernel_rfl
theorem k15 : ((Rows.pathCoversRow.mapsOut == Tryd.prog.mapsAmong Tryd.f3.resultTypes.toList)) = true := by kernel_rfl
theorem k16 : ((Rows.pathCoversRow.loops == (Tryd.f3.params.toList ++ Rows.pathCoversSpec.plain.varTypes Tryd.prog).any (Tryd.prog.loopsFrom ·))) = true := by kernel_rfl
theorem k17 : ((Rows.pathCoversRow.wideKeys == (Tryd.f3.params.toList ++ Rows.pathCoversSpec.plain.varTypes Tryd.prog ++ Tryd.f3.resultTypes.toList).any (Tryd.prog.wideKeysFrom ·))) = true := by kernel_rfl
theorem k18 : (Rows.pathCoversSpec.vars.all (Tryd.prog.varReadable ·)) = true := by kernel_rfl
theorem k19 : (Tryd.f3.resultTypes.all (fun t => Tryd.prog.readableRec t && decide (t < Tryd.prog.types.size))) = true := by kernel_rfl
theorem k20 : ((Rows.pathCoversRow.ifacesOut == Tryd.f3.resultTypes.toList.any (Tryd.prog.ifacesRec ·))) = true := by kernel_rfl
theorem k21 : ((Rows.pathCoversRow.loopsOut == Tryd.f3.resultTypes.toList.any (Tryd.prog.loopsFrom ·))) = true := by kernel_rfl
theorem k22 : ((Rows.pathCoversRow.plainKeys == Tryd.prog.plainKeys)) = true := by kernel_rfl
theorem k23 : (Rows.pathCoversRow.shortTexts.isNone) = true := by kernel_rfl
theorem k24 : (Tryd.prog.stopsHeard) = true := by kernel_rfl
theorem k25 : (Tryd.prog.mayEnter) = true := by kernel_rfl
theorem k26 : ((Rows.pathCoversRow.lifted == Tryd.prog.liftsFinal)) = true := by kernel_rfl
theorem k27 : ((Tryd.prog.make == some Rows.pathCoversRow.make)) = true := by kernel_rfl
theorem k28 : ((Rows.pathCoversRow.kinds == (if Rows.pathCoversRow.domain.isEmpty then [] else Tryd.f3.params.toList.map fun t => match Tryd.prog.underlying t with | some (.int k) => some k | _ => none))) = true := by kernel_rfl
theorem k29 : ((Rows.pathCoversRow.pinned == Rows.pathCoversRow.pinnedBy)) = true := by kernel_rfl
theorem k30 : ((Rows.pathCoversRow.veiled == (Tryd.f3.params.toList ++ Rows.pathCoversSpec.plain.varTypes Tryd.prog ++ Tryd.f3.resultTypes.toList).any (Tryd.prog.veiledRec ·))) = true := by kernel_rfl
theorem k31 : (Rows.pathCoversRow.veiledFits Tryd.prog Tryd.f3.params.toList (Tryd.f3.params.toList ++ Rows.pathCoversSpec.plain.varTypes Tryd.prog ++ Tryd.f3.resultTypes.toList)) = true := by kernel_rfl
theorem looks : true = Tryd.prog.looks [] := by kernel_rfl
theorem goes : false = Rows.pathCoversRow.goesBy Tryd.prog := by kernel_rfl
theorem byText : Rows.pathCoversRow.wfByText (OpenSpec.ofChange Rows.pathCoversSpec) = true := by kernel_rfl
theorem main : Tryd.prog.mainIs = some (Rows.pathCoversCard.stood.harness.1, Rows.pathCoversCard.stood.harness.2.toList) := by kernel_rfl
end Go.Proofs.YtllfeoinmjbeaaaDoor.PathCoversFx
