/- ExprCalculates: the closed facts of its row and its card, each by the kernel. No condition. -/
import Derived.Test.YtcifakhpggoebabGreatDoorRows
import Derived.Test.YtcifakhpggoebabGreatDoorCards
import Derived.JoinedOf
import Derived.SevenTiedAt
import Derived.KernelRfl
namespace Go.Proofs.YtcifakhpggoebabGreatDoor.ExprCalculatesFx
open Go
theorem k0 : (Rows.exprCalculatesRow.wf (OpenSpec.ofChange Rows.exprCalculatesSpec)) = true := by kernel_rfl
theorem k1 : (laidOutB Tryz.prog) = true := by kernel_rfl
theorem k2 : (mapsRowed Tryz.prog) = true := by kernel_rfl
theorem k3 : (Tryz.f3.params.all (Tryz.prog.readableRec ·)) = true := by kernel_rfl
theorem k4 : (namedTie Tryz.prog Rows.exprCalculatesRow.named Rows.exprCalculatesSpec.vars) = true := by kernel_rfl
theorem k5 : ((Rows.exprCalculatesRow.stops == [])) = true := by kernel_rfl
theorem k6 : ((Tryz.prog.stops == [])) = true := by kernel_rfl
theorem k7 : ((Rows.exprCalculatesRow.knobs == [])) = true := by kernel_rfl
theorem k8 : ((Tryz.prog.stopKnobs == [])) = true := by kernel_rfl
theorem k9 : ((Rows.exprCalculatesRow.inPlace == Tryz.prog.inPlace 3)) = true := by kernel_rfl
theorem k10 : ((Rows.exprCalculatesRow.unfollowed == Tryz.prog.unfollowed 3)) = true := by kernel_rfl
theorem k11 : ((Rows.exprCalculatesRow.recurses == Tryz.prog.recurses 3)) = true := by kernel_rfl
theorem k12 : ((Rows.exprCalculatesRow.named == Tryz.prog.varsNamed 3)) = true := by kernel_rfl
theorem k13 : ((Rows.exprCalculatesRow.maps == (Tryz.f3.params.toList ++ Rows.exprCalculatesSpec.plain.varTypes Tryz.prog).any (Tryz.prog.mapsRec ·))) = true := by kernel_rfl
theorem k14 : ((Rows.exprCalculatesRow.ifaces == (Tryz.f3.params.toList ++ Rows.exprCalculatesSpec.plain.varTypes Tryz.prog).any (Tryz.prog.ifacesRec ·))) = true := by kernel_rfl
theorem k15 : ((Rows.exprCalculatesRow.mapsOut == Tryz.prog.mapsAmong Tryz.f3.resultTypes.toList)) = true := by kernel_rfl
theorem k16 : ((Rows.exprCalculatesRow.loops == (Tryz.f3.params.toList ++ Rows.exprCalculatesSpec.plain.varTypes Tryz.prog).any (Tryz.prog.loopsFrom ·))) = true := by kernel_rfl
theorem k17 : ((Rows.exprCalculatesRow.wideKeys == (Tryz.f3.params.toList ++ Rows.exprCalculatesSpec.plain.varTypes Tryz.prog ++ Tryz.f3.resultTypes.toList).any (Tryz.prog.wideKeysFrom ·))) = true := by kernel_rfl
theorem k18 : (Rows.exprCalculatesSpec.vars.all (Tryz.prog.varReadable ·)) = true := by kernel_rfl
theorem k19 : (Tryz.f3.resultTypes.all (fun t => Tryz.prog.readableRec t && decide (t < Tryz.prog.types.size))) = true := by kernel_rfl
theorem k20 : ((Rows.exprCalculatesRow.ifacesOut == Tryz.f3.resultTypes.toList.any (Tryz.prog.ifacesRec ·))) = true := by kernel_rfl
theorem k21 : ((Rows.exprCalculatesRow.loopsOut == Tryz.f3.resultTypes.toList.any (Tryz.prog.loopsFrom ·))) = true := by kernel_rfl
theorem k22 : ((Rows.exprCalculatesRow.plainKeys == Tryz.prog.plainKeys)) = true := by kernel_rfl
theorem k23 : (Rows.exprCalculatesRow.shortTexts.isNone) = true := by kernel_rfl
theorem k24 : (Tryz.prog.stopsHeard) = true := by kernel_rfl
theorem k25 : (Tryz.prog.mayEnter) = true := by kernel_rfl
theorem k26 : ((Rows.exprCalculatesRow.lifted == Tryz.prog.liftsFinal)) = true := by kernel_rfl
theorem k27 : ((Tryz.prog.make == some Rows.exprCalculatesRow.make)) = true := by kernel_rfl
theorem k28 : ((Rows.exprCalculatesRow.kinds == (if Rows.exprCalculatesRow.domain.isEmpty then [] else Tryz.f3.params.toList.map fun t => match Tryz.prog.underlying t with | some (.int k) => some k | _ => none))) = true := by kernel_rfl
theorem k29 : ((Rows.exprCalculatesRow.pinned == Rows.exprCalculatesRow.pinnedBy)) = true := by kernel_rfl
theorem k30 : ((Rows.exprCalculatesRow.veiled == (Tryz.f3.params.toList ++ Rows.exprCalculatesSpec.plain.varTypes Tryz.prog ++ Tryz.f3.resultTypes.toList).any (Tryz.prog.veiledRec ·))) = true := by kernel_rfl
theorem k31 : (Rows.exprCalculatesRow.veiledFits Tryz.prog Tryz.f3.params.toList (Tryz.f3.params.toList ++ Rows.exprCalculatesSpec.plain.varTypes Tryz.prog ++ Tryz.f3.resultTypes.toList)) = true := by kernel_rfl
theorem looks : true = Tryz.prog.looks [] := by kernel_rfl
theorem goes : false = Rows.exprCalculatesRow.goesBy Tryz.prog := by kernel_rfl
theorem byText : Rows.exprCalculatesRow.wfByText (OpenSpec.ofChange Rows.exprCalculatesSpec) = true := by kernel_rfl
theorem main : Tryz.prog.mainIs = some (Rows.exprCalculatesCard.stood.harness.1, Rows.exprCalculatesCard.stood.harness.2.toList) := by kernel_rfl
end Go.Proofs.YtcifakhpggoebabGreatDoor.ExprCalculatesFx
