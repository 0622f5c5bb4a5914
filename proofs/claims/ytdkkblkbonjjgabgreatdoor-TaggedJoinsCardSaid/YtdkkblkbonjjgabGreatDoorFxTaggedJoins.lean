/- TaggedJoins: the closed facts of its row and its card, each by the kernel. No condition. -/
import Derived.Test.YtdkkblkbonjjgabGreatDoorRows
import Derived.Test.YtdkkblkbonjjgabGreatDoorCards
import Derived.JoinedOf
import Derived.SevenTiedAt
import Derived.KernelRfl
namespace Go.Proofs.YtdkkblkbonjjgabGreatDoor.TaggedJoinsFx
open Go
theorem k0 : (Rows.taggedJoinsRow.wf (OpenSpec.ofChange Rows.taggedJoinsSpec)) = true := by kernel_rfl
theorem k1 : (laidOutB Tryz.prog) = true := by kernel_rfl
theorem k2 : (mapsRowed Tryz.prog) = true := by kernel_rfl
theorem k3 : (Tryz.f3.params.all (Tryz.prog.readableRec ·)) = true := by kernel_rfl
theorem k4 : (namedTie Tryz.prog Rows.taggedJoinsRow.named Rows.taggedJoinsSpec.vars) = true := by kernel_rfl
theorem k5 : ((Rows.taggedJoinsRow.stops == [])) = true := by kernel_rfl
theorem k6 : ((Tryz.prog.stops == [])) = true := by kernel_rfl
theorem k7 : ((Rows.taggedJoinsRow.knobs == [])) = true := by kernel_rfl
theorem k8 : ((Tryz.prog.stopKnobs == [])) = true := by kernel_rfl
theorem k9 : ((Rows.taggedJoinsRow.inPlace == Tryz.prog.inPlace 3)) = true := by kernel_rfl
theorem k10 : ((Rows.taggedJoinsRow.unfollowed == Tryz.prog.unfollowed 3)) = true := by kernel_rfl
theorem k11 : ((Rows.taggedJoinsRow.recurses == Tryz.prog.recurses 3)) = true := by kernel_rfl
theorem k12 : ((Rows.taggedJoinsRow.named == Tryz.prog.varsNamed 3)) = true := by kernel_rfl
theorem k13 : ((Rows.taggedJoinsRow.maps == (Tryz.f3.params.toList ++ Rows.taggedJoinsSpec.plain.varTypes Tryz.prog).any (Tryz.prog.mapsRec ·))) = true := by kernel_rfl
theorem k14 : ((Rows.taggedJoinsRow.ifaces == (Tryz.f3.params.toList ++ Rows.taggedJoinsSpec.plain.varTypes Tryz.prog).any (Tryz.prog.ifacesRec ·))) = true := by kernel_rfl
theorem k15 : ((Rows.taggedJoinsRow.mapsOut == Tryz.prog.mapsAmong Tryz.f3.resultTypes.toList)) = true := by kernel_rfl
theorem k16 : ((Rows.taggedJoinsRow.loops == (Tryz.f3.params.toList ++ Rows.taggedJoinsSpec.plain.varTypes Tryz.prog).any (Tryz.prog.loopsFrom ·))) = true := by kernel_rfl
theorem k17 : ((Rows.taggedJoinsRow.wideKeys == (Tryz.f3.params.toList ++ Rows.taggedJoinsSpec.plain.varTypes Tryz.prog ++ Tryz.f3.resultTypes.toList).any (Tryz.prog.wideKeysFrom ·))) = true := by kernel_rfl
theorem k18 : (Rows.taggedJoinsSpec.vars.all (Tryz.prog.varReadable ·)) = true := by kernel_rfl
theorem k19 : (Tryz.f3.resultTypes.all (fun t => Tryz.prog.readableRec t && decide (t < Tryz.prog.types.size))) = true := by kernel_rfl
theorem k20 : ((Rows.taggedJoinsRow.ifacesOut == Tryz.f3.resultTypes.toList.any (Tryz.prog.ifacesRec ·))) = true := by kernel_rfl
theorem k21 : ((Rows.taggedJoinsRow.loopsOut == Tryz.f3.resultTypes.toList.any (Tryz.prog.loopsFrom ·))) = true := by kernel_rfl
theorem k22 : ((Rows.taggedJoinsRow.plainKeys == Tryz.prog.plainKeys)) = true := by kernel_rfl
theorem k23 : (Rows.taggedJoinsRow.shortTexts.isNone) = true := by kernel_rfl
theorem k24 : (Tryz.prog.stopsHeard) = true := by kernel_rfl
theorem k25 : (Tryz.prog.mayEnter) = true := by kernel_rfl
theorem k26 : ((Rows.taggedJoinsRow.lifted == Tryz.prog.liftsFinal)) = true := by kernel_rfl
theorem k27 : ((Tryz.prog.make == some Rows.taggedJoinsRow.make)) = true := by kernel_rfl
theorem k28 : ((Rows.taggedJoinsRow.kinds == (if Rows.taggedJoinsRow.domain.isEmpty then [] else Tryz.f3.params.toList.map fun t => match Tryz.prog.underlying t with | some (.int k) => some k | _ => none))) = true := by kernel_rfl
theorem k29 : ((Rows.taggedJoinsRow.pinned == Rows.taggedJoinsRow.pinnedBy)) = true := by kernel_rfl
theorem k30 : ((Rows.taggedJoinsRow.veiled == (Tryz.f3.params.toList ++ Rows.taggedJoinsSpec.plain.varTypes Tryz.prog ++ Tryz.f3.resultTypes.toList).any (Tryz.prog.veiledRec ·))) = true := by kernel_rfl
theorem k31 : (Rows.taggedJoinsRow.veiledFits Tryz.prog Tryz.f3.params.toList (Tryz.f3.params.toList ++ Rows.taggedJoinsSpec.plain.varTypes Tryz.prog ++ Tryz.f3.resultTypes.toList)) = true := by kernel_rfl
theorem looks : false = Tryz.prog.looks [] := by kernel_rfl
theorem goes : false = Rows.taggedJoinsRow.goesBy Tryz.prog := by kernel_rfl
theorem byText : Rows.taggedJoinsRow.wfByText (OpenSpec.ofChange Rows.taggedJoinsSpec) = true := by kernel_rfl
theorem main : Tryz.prog.mainIs = some (Rows.taggedJoinsCard.stood.harness.1, Rows.taggedJoinsCard.stood.harness.2.toList) := by kernel_rfl
end Go.Proofs.YtdkkblkbonjjgabGreatDoor.TaggedJoinsFx
