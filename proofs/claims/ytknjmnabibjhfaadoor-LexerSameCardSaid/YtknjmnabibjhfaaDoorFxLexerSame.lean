/- LexerSame: the closed facts of its row and its card, each by the kernel. No condition. -/
import Derived.Test.YtknjmnabibjhfaaDoorRows
import Derived.Test.YtknjmnabibjhfaaDoorCards
import Derived.JoinedOf
import Derived.SevenTiedAt
import Derived.KernelRfl
namespace Go.Proofs.YtknjmnabibjhfaaDoor.LexerSameFx
open Go
theorem k0 : (Rows.lexerSameRow.wf (OpenSpec.ofChange Rows.lexerSameSpec)) = true := by kernel_rfl
theorem k1 : (laidOutB Tryd.prog) = true := by kernel_rfl
theorem k2 : (mapsRowed Tryd.prog) = true := by kernel_rfl
theorem k3 : (Tryd.f3.params.all (Tryd.prog.readableRec ·)) = true := by kernel_rfl
theorem k4 : (namedTie Tryd.prog Rows.lexerSameRow.named Rows.lexerSameSpec.vars) = true := by kernel_rfl
theorem k5 : ((Rows.lexerSameRow.stops == [])) = true := by kernel_rfl
theorem k6 : ((Tryd.prog.stops == [])) = true := by kernel_rfl
theorem k7 : ((Rows.lexerSameRow.knobs == [])) = true := by kernel_rfl
theorem k8 : ((Tryd.prog.stopKnobs == [])) = true := by kernel_rfl
theorem k9 : ((Rows.lexerSameRow.inPlace == Tryd.prog.inPlace 3)) = true := by kernel_rfl
theorem k10 : ((Rows.lexerSameRow.unfollowed == Tryd.prog.unfollowed 3)) = true := by kernel_rfl
theorem k11 : ((Rows.lexerSameRow.recurses == Tryd.prog.recurses 3)) = true := by kernel_rfl
theorem k12 : ((Rows.lexerSameRow.named == Tryd.prog.varsNamed 3)) = true := by kernel_rfl
theorem k13 : ((Rows.lexerSameRow.maps == (Tryd.f3.params.toList ++ Rows.lexerSameSpec.plain.varTypes Tryd.prog).any (Tryd.prog.mapsRec ·))) = true := by kernel_rfl
theorem k14 : ((Rows.lexerSameRow.ifaces == (Tryd.f3.params.toList ++ Rows.lexerSameSpec.plain.varTypes Tryd.prog).any (Tryd.prog.ifacesRec ·))) = true := by kernel_rfl
theorem k15 : ((Rows.lexerSameRow.mapsOut == Tryd.prog.mapsAmong Tryd.f3.resultTypes.toList)) = true := by kernel_rfl
theorem k16 : ((Rows.lexerSameRow.loops == (Tryd.f3.params.toList ++ Rows.lexerSameSpec.plain.varTypes Tryd.prog).any (Tryd.prog.loopsFrom ·))) = true := by kernel_rfl
theorem k17 : ((Rows.lexerSameRow.wideKeys == (Tryd.f3.params.toList ++ Rows.lexerSameSpec.plain.varTypes Tryd.prog ++ Tryd.f3.resultTypes.toList).any (Tryd.prog.wideKeysFrom ·))) = true := by kernel_rfl
theorem k18 : (Rows.lexerSameSpec.vars.all (Tryd.prog.varReadable ·)) = true := by kernel_rfl
theorem k19 : (Tryd.f3.resultTypes.all (fun t => Tryd.prog.readableRec t && decide (t < Tryd.prog.types.size))) = true := by kernel_rfl
theorem k20 : ((Rows.lexerSameRow.ifacesOut == Tryd.f3.resultTypes.toList.any (Tryd.prog.ifacesRec ·))) = true := by kernel_rfl
theorem k21 : ((Rows.lexerSameRow.loopsOut == Tryd.f3.resultTypes.toList.any (Tryd.prog.loopsFrom ·))) = true := by kernel_rfl
theorem k22 : ((Rows.lexerSameRow.plainKeys == Tryd.prog.plainKeys)) = true := by kernel_rfl
theorem k23 : (Rows.lexerSameRow.shortTexts.isNone) = true := by kernel_rfl
theorem k24 : (Tryd.prog.stopsHeard) = true := by kernel_rfl
theorem k25 : (Tryd.prog.mayEnter) = true := by kernel_rfl
theorem k26 : ((Rows.lexerSameRow.lifted == Tryd.prog.liftsFinal)) = true := by kernel_rfl
theorem k27 : ((Tryd.prog.make == some Rows.lexerSameRow.make)) = true := by kernel_rfl
theorem k28 : ((Rows.lexerSameRow.kinds == (if Rows.lexerSameRow.domain.isEmpty then [] else Tryd.f3.params.toList.map fun t => match Tryd.prog.underlying t with | some (.int k) => some k | _ => none))) = true := by kernel_rfl
theorem k29 : ((Rows.lexerSameRow.pinned == Rows.lexerSameRow.pinnedBy)) = true := by kernel_rfl
theorem k30 : ((Rows.lexerSameRow.veiled == (Tryd.f3.params.toList ++ Rows.lexerSameSpec.plain.varTypes Tryd.prog ++ Tryd.f3.resultTypes.toList).any (Tryd.prog.veiledRec ·))) = true := by kernel_rfl
theorem k31 : (Rows.lexerSameRow.veiledFits Tryd.prog Tryd.f3.params.toList (Tryd.f3.params.toList ++ Rows.lexerSameSpec.plain.varTypes Tryd.prog ++ Tryd.f3.resultTypes.toList)) = true := by kernel_rfl
theorem looks : false = Tryd.prog.looks [] := by kernel_rfl
theorem goes : false = Rows.lexerSameRow.goesBy Tryd.prog := by kernel_rfl
theorem byText : Rows.lexerSameRow.wfByText (OpenSpec.ofChange Rows.lexerSameSpec) = true := by kernel_rfl
theorem main : Tryd.prog.mainIs = some (Rows.lexerSameCard.stood.harness.1, Rows.lexerSameCard.stood.harness.2.toList) := by kernel_rfl
end Go.Proofs.YtknjmnabibjhfaaDoor.LexerSameFx
