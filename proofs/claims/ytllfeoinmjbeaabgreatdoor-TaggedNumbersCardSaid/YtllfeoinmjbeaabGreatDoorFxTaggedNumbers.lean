/- TaggedNumbers: the closed facts of its row and its card, each by the kernel. No condition. -/
import Derived.Test.YtllfeoinmjbeaabGreatDoorRows
import Derived.Test.YtllfeoinmjbeaabGreatDoorCards
import Derived.JoinedOf
import Derived.SevenTiedAt
import Derived.KernelRfl
namespace Go.Proofs.YtllfeoinmjbeaabGreatDoor.TaggedNumbersFx
open Go
theorem k0 : (Rows.taggedNumbersRow.wf (OpenSpec.ofChange Rows.taggedNumbersSpec)) = true := by kernel_rfl
theorem k1 : (laidOutB Tryz.prog) = true := by kernel_rfl
theorem k2 : (mapsRowed Tryz.prog) = true := by kernel_rfl
theorem k3 : (Tryz.f3.params.all (Tryz.prog.readableRec ·)) = true := by kernel_rfl
theorem k4 : (namedTie Tryz.prog Rows.taggedNumbersRow.named Rows.taggedNumbersSpec.vars) = true := by kernel_rfl
theorem k5 : ((Rows.taggedNumbersRow.stops == [])) = true := by kernel_rfl
theorem k6 : ((Tryz.prog.stops == [])) = true := by kernel_rfl
theorem k7 : ((Rows.taggedNumbersRow.knobs == [])) = true := by kernel_rfl
theorem k8 : ((Tryz.prog.stopKnobs == [])) = true := by kernel_rfl
theorem k9 : ((Rows.taggedNumbersRow.inPlace == Tryz.prog.inPlace 3)) = true := by kernel_rfl
theorem k10 : ((Rows.taggedNumbersRow.unfollowed == Tryz.prog.unfollowed 3)) = true := by kernel_rfl
theorem k11 : ((Rows.taggedNumbersRow.recurses == Tryz.prog.recurses 3)) = true := by kernel_rfl
theorem k12 : ((Rows.taggedNumbersRow.named == Tryz.prog.varsNamed 3)) = true := by kernel_rfl
theorem k13 : ((Rows.taggedNumbersRow.maps == (Tryz.f3.params.toList ++ Rows.taggedNumbersSpec.plain.varTypes Tryz.prog).any (Tryz.prog.mapsRec ·))) = true := by kernel_rfl
theorem k14 : ((Rows.taggedNumbersRow.ifaces == (Tryz.f3.params.toList ++ Rows.taggedNumbersSpec.plain.varTypes Tryz.prog).any (Tryz.prog.ifacesRec ·))) = true := by kernel_rfl
theorem k15 : ((Rows.taggedNumbersRow.mapsOut == Tryz.prog.mapsAmong Tryz.f3.resultTypes.toList)) = true := by kernel_rfl
theorem k16 : ((Rows.taggedNumbersRow.loops == (Tryz.f3.params.toList ++ Rows.taggedNumbersSpec.plain.varTypes Tryz.prog).any (Tryz.prog.loopsFrom ·))) = true := by kernel_rfl
theorem k17 : ((Rows.taggedNumbersRow.wideKeys == (Tryz.f3.params.toList ++ Rows.taggedNumbersSpec.plain.varTypes Tryz.prog ++ Tryz.f3.resultTypes.toList).any (Tryz.prog.wideKeysFrom ·))) = true := by kernel_rfl
theorem k18 : (Rows.taggedNumbersSpec.vars.all (Tryz.prog.varReadable ·)) = true := by kernel_rfl
theorem k19 : (Tryz.f3.resultTypes.all (fun t => Tryz.prog.readableRec t && decide (t < Tryz.prog.types.size))) = true := by kernel_rfl
theorem k20 : ((Rows.taggedNumbersRow.ifacesOut == Tryz.f3.resultTypes.toList.any (Tryz.prog.ifacesRec ·))) = true := by kernel_rfl
theorem k21 : ((Rows.taggedNumbersRow.loopsOut == Tryz.f3.resultTypes.toList.any (Tryz.prog.loopsFrom ·))) = true := by kernel_rfl
theorem k22 : ((Rows.taggedNumbersRow.plainKeys == Tryz.prog.plainKeys)) = true := by kernel_rfl
theorem k23 : (Rows.taggedNumbersRow.shortTexts.isNone) = true := by kernel_rfl
theorem k24 : (Tryz.prog.stopsHeard) = true := by kernel_rfl
theorem k25 : (Tryz.prog.mayEnter) = true := by kernel_rfl
theorem k26 : ((Rows.taggedNumbersRow.lifted == Tryz.prog.liftsFinal)) = true := by kernel_rfl
theorem k27 : ((Tryz.prog.make == some Rows.taggedNumbersRow.make)) = true := by kernel_rfl
theorem k28 : ((Rows.taggedNumbersRow.kinds == (if Rows.taggedNumbersRow.domain.isEmpty then [] else Tryz.f3.params.toList.map fun t => match Tryz.prog.underlying t with | some (.int k) => some k | _ => none))) = true := by kernel_rfl
theorem k29 : ((Rows.taggedNumbersRow.pinned == Rows.taggedNumbersRow.pinnedBy)) = true := by kernel_rfl
theorem k30 : ((Rows.taggedNumbersRow.veiled == (Tryz.f3.params.toList ++ Rows.taggedNumbersSpec.plain.varTypes Tryz.prog ++ Tryz.f3.resultTypes.toList).any (Tryz.prog.veiledRec ·))) = true := by kernel_rfl
theorem k31 : (Rows.taggedNumbersRow.veiledFits Tryz.prog Tryz.f3.params.toList (Tryz.f3.params.toList ++ Rows.taggedNumbersSpec.plain.varTypes Tryz.prog ++ Tryz.f3.resultTypes.toList)) = true := by kernel_rfl
theorem looks : false = Tryz.prog.looks [] := by kernel_rfl
theorem goes : false = Rows.taggedNumbersRow.goesBy Tryz.prog := by kernel_rfl
theorem byText : Rows.taggedNumbersRow.wfByText (OpenSpec.ofChange Rows.taggedNumbersSpec) = true := by kernel_rfl
theorem main : Tryz.prog.mainIs = some (Rows.taggedNumbersCard.stood.harness.1, Rows.taggedNumbersCard.stood.harness.2.toList) := by kernel_rfl
end Go.Proofs.YtllfeoinmjbeaabGreatDoor.TaggedNumbersFx
