/- FormulaReserved: the closed facts of its row and its card, each by the kernel. No condition. -/
import Derived.Test.YtknjmnabibjhfadGreatDoorRows
import Derived.Test.YtknjmnabibjhfadGreatDoorCards
import Derived.JoinedOf
import Derived.SevenTiedAt
import Derived.KernelRfl
namespace Go.Proofs.YtknjmnabibjhfadGreatDoor.FormulaReservedFx
open Go
theorem k0 : (Rows.formulaReservedRow.wf (OpenSpec.ofChange Rows.formulaReservedSpec)) = true := by kernel_rfl
theorem k1 : (laidOutB Tryz.prog) = true := by kernel_rfl
theorem k2 : (mapsRowed Tryz.prog) = true := by kernel_rfl
theorem k3 : (Tryz.f3.params.all (Tryz.prog.readableRec ·)) = true := by kernel_rfl
theorem k4 : (namedTie Tryz.prog Rows.formulaReservedRow.named Rows.formulaReservedSpec.vars) = true := by kernel_rfl
theorem k5 : ((Rows.formulaReservedRow.stops == [])) = true := by kernel_rfl
theorem k6 : ((Tryz.prog.stops == [])) = true := by kernel_rfl
theorem k7 : ((Rows.formulaReservedRow.knobs == [])) = true := by kernel_rfl
theorem k8 : ((Tryz.prog.stopKnobs == [])) = true := by kernel_rfl
theorem k9 : ((Rows.formulaReservedRow.inPlace == Tryz.prog.inPlace 3)) = true := by kernel_rfl
theorem k10 : ((Rows.formulaReservedRow.unfollowed == Tryz.prog.unfollowed 3)) = true := by kernel_rfl
theorem k11 : ((Rows.formulaReservedRow.recurses == Tryz.prog.recurses 3)) = true := by kernel_rfl
theorem k12 : ((Rows.formulaReservedRow.named == Tryz.prog.varsNamed 3)) = true := by kernel_rfl
theorem k13 : ((Rows.formulaReservedRow.maps == (Tryz.f3.params.toList ++ Rows.formulaReservedSpec.plain.varTypes Tryz.prog).any (Tryz.prog.mapsRec ·))) = true := by kernel_rfl
theorem k14 : ((Rows.formulaReservedRow.ifaces == (Tryz.f3.params.toList ++ Rows.formulaReservedSpec.plain.varTypes Tryz.prog).any (Tryz.prog.ifacesRec ·))) = true := by kernel_rfl
theorem k15 : ((Rows.formulaReservedRow.mapsOut == Tryz.prog.mapsAmong Tryz.f3.resultTypes.toList)) = true := by kernel_rfl
theorem k16 : ((Rows.formulaReservedRow.loops == (Tryz.f3.params.toList ++ Rows.formulaReservedSpec.plain.varTypes Tryz.prog).any (Tryz.prog.loopsFrom ·))) = true := by kernel_rfl
theorem k17 : ((Rows.formulaReservedRow.wideKeys == (Tryz.f3.params.toList ++ Rows.formulaReservedSpec.plain.varTypes Tryz.prog ++ Tryz.f3.resultTypes.toList).any (Tryz.prog.wideKeysFrom ·))) = true := by kernel_rfl
theorem k18 : (Rows.formulaReservedSpec.vars.all (Tryz.prog.varReadable ·)) = true := by kernel_rfl
theorem k19 : (Tryz.f3.resultTypes.all (fun t => Tryz.prog.readableRec t && decide (t < Tryz.prog.types.size))) = true := by kernel_rfl
theorem k20 : ((Rows.formulaReservedRow.ifacesOut == Tryz.f3.resultTypes.toList.any (Tryz.prog.ifacesRec ·))) = true := by kernel_rfl
theorem k21 : ((Rows.formulaReservedRow.loopsOut == Tryz.f3.resultTypes.toList.any (Tryz.prog.loopsFrom ·))) = true := by kernel_rfl
theorem k22 : ((Rows.formulaReservedRow.plainKeys == Tryz.prog.plainKeys)) = true := by kernel_rfl
theorem k23 : (Rows.formulaReservedRow.shortTexts.isNone) = true := by kernel_rfl
theorem k24 : (Tryz.prog.stopsHeard) = true := by kernel_rfl
theorem k25 : (Tryz.prog.mayEnter) = true := by kernel_rfl
theorem k26 : ((Rows.formulaReservedRow.lifted == Tryz.prog.liftsFinal)) = true := by kernel_rfl
theorem k27 : ((Tryz.prog.make == some Rows.formulaReservedRow.make)) = true := by kernel_rfl
theorem k28 : ((Rows.formulaReservedRow.kinds == (if Rows.formulaReservedRow.domain.isEmpty then [] else Tryz.f3.params.toList.map fun t => match Tryz.prog.underlying t with | some (.int k) => some k | _ => none))) = true := by kernel_rfl
theorem k29 : ((Rows.formulaReservedRow.pinned == Rows.formulaReservedRow.pinnedBy)) = true := by kernel_rfl
theorem k30 : ((Rows.formulaReservedRow.veiled == (Tryz.f3.params.toList ++ Rows.formulaReservedSpec.plain.varTypes Tryz.prog ++ Tryz.f3.resultTypes.toList).any (Tryz.prog.veiledRec ·))) = true := by kernel_rfl
theorem k31 : (Rows.formulaReservedRow.veiledFits Tryz.prog Tryz.f3.params.toList (Tryz.f3.params.toList ++ Rows.formulaReservedSpec.plain.varTypes Tryz.prog ++ Tryz.f3.resultTypes.toList)) = true := by kernel_rfl
theorem looks : true = Tryz.prog.looks [] := by kernel_rfl
theorem goes : false = Rows.formulaReservedRow.goesBy Tryz.prog := by kernel_rfl
theorem byText : Rows.formulaReservedRow.wfByText (OpenSpec.ofChange Rows.formulaReservedSpec) = true := by kernel_rfl
theorem main : Tryz.prog.mainIs = some (Rows.formulaReservedCard.stood.harness.1, Rows.formulaReservedCard.stood.harness.2.toList) := by kernel_rfl
end Go.Proofs.YtknjmnabibjhfadGreatDoor.FormulaReservedFx
