/- LexerNil: the closed facts of its row and its card, each by the kernel. No condition. -/
import Derived.Test.YtknjmnabibjhfabDoorRows
import Derived.Test.YtknjmnabibjhfabDoorCards
import Derived.JoinedOf
import Derived.SevenTiedAt
import Derived.KernelRfl
namespace Go.Proofs.YtknjmnabibjhfabDoor.LexerNilFx
open Go
theorem k0 : (Rows.lexerNilRow.wf (OpenSpec.ofChange Rows.lexerNilSpec)) = true := by kernel_rfl
theorem k1 : (laidOutB Tryd.prog) = true := by kernel_rfl
theorem k2 : (mapsRowed Tryd.prog) = true := by kernel_rfl
theorem k3 : (Tryd.f3.params.all (Tryd.prog.readableRec ·)) = true := by kernel_rfl
theorem k4 : (namedTie Tryd.prog Rows.lexerNilRow.named Rows.lexerNilSpec.vars) = true := by kernel_rfl
theorem k5 : ((Rows.lexerNilRow.stops == [])) = true := by kernel_rfl
theorem k6 : ((Tryd.prog.stops == [])) = true := by kernel_rfl
theorem k7 : ((Rows.lexerNilRow.knobs == [])) = true := by kernel_rfl
theorem k8 : ((Tryd.prog.stopKnobs == [])) = true := by kernel_rfl
theorem k9 : ((Rows.lexerNilRow.inPlace == Tryd.prog.inPlace 3)) = true := by kernel_rfl
theorem k10 : ((Rows.lexerNilRow.unfollowed == Tryd.prog.unfollowed 3)) = true := by kernel_rfl
theorem k11 : ((Rows.lexerNilRow.recurses == Tryd.prog.recurses 3)) = true := by kernel_rfl
theorem k12 : ((Rows.lexerNilRow.named == Tryd.prog.varsNamed 3)) = true := by kernel_rfl
theorem k13 : ((Rows.lexerNilRow.maps == (Tryd.f3.params.toList ++ Rows.lexerNilSpec.plain.varTypes Tryd.prog).any (Tryd.prog.mapsRec ·))) = true := by kernel_rfl
theorem k14 : ((Rows.lexerNilRow.ifaces == (Tryd.f3.params.toList ++ Rows.lexerNilSpec.plain.varTypes Tryd.prog).any (Tryd.prog.ifacesRec ·))) = true := by kernel_rfl
theorem k15 : ((Rows.lexerNilRow.mapsOut == Tryd.prog.mapsAmong Tryd.f3.resultTypes.toList)) = true := by kernel_rfl
theorem k16 : ((Rows.lexerNilRow.loops == (Tryd.f3.params.toList ++ Rows.lexerNilSpec.plain.varTypes Tryd.prog).any (Tryd.prog.loopsFrom ·))) = true := by kernel_rfl
theorem k17 : ((Rows.lexerNilRow.wideKeys == (Tryd.f3.params.toList ++ Rows.lexerNilSpec.plain.varTypes Tryd.prog ++ Tryd.f3.resultTypes.toList).any (Tryd.prog.wideKeysFrom ·))) = true := by kernel_rfl
theorem k18 : (Rows.lexerNilSpec.vars.all (Tryd.prog.varReadable ·)) = true := by kernel_rfl
theorem k19 : (Tryd.f3.resultTypes.all (fun t => Tryd.prog.readableRec t && decide (t < Tryd.prog.types.size))) = true := by kernel_rfl
theorem k20 : ((Rows.lexerNilRow.ifacesOut == Tryd.f3.resultTypes.toList.any (Tryd.prog.ifacesRec ·))) = true := by kernel_rfl
theorem k21 : ((Rows.lexerNilRow.loopsOut == Tryd.f3.resultTypes.toList.any (Tryd.prog.loopsFrom ·))) = true := by kernel_rfl
theorem k22 : ((Rows.lexerNilRow.plainKeys == Tryd.prog.plainKeys)) = true := by kernel_rfl
theorem k23 : (Rows.lexerNilRow.shortTexts.isNone) = true := by kernel_rfl
theorem k24 : (Tryd.prog.stopsHeard) = true := by kernel_rfl
theorem k25 : (Tryd.prog.mayEnter) = true := by kernel_rfl
theorem k26 : ((Rows.lexerNilRow.lifted == Tryd.prog.liftsFinal)) = true := by kernel_rfl
theorem k27 : ((Tryd.prog.make == some Rows.lexerNilRow.make)) = true := by kernel_rfl
theorem k28 : ((Rows.lexerNilRow.kinds == (if Rows.lexerNilRow.domain.isEmpty then [] else Tryd.f3.params.toList.map fun t => match Tryd.prog.underlying t with | some (.int k) => some k | _ => none))) = true := by kernel_rfl
theorem k29 : ((Rows.lexerNilRow.pinned == Rows.lexerNilRow.pinnedBy)) = true := by kernel_rfl
theorem k30 : ((Rows.lexerNilRow.veiled == (Tryd.f3.params.toList ++ Rows.lexerNilSpec.plain.varTypes Tryd.prog ++ Tryd.f3.resultTypes.toList).any (Tryd.prog.veiledRec ·))) = true := by kernel_rfl
theorem k31 : (Rows.lexerNilRow.veiledFits Tryd.prog Tryd.f3.params.toList (Tryd.f3.params.toList ++ Rows.lexerNilSpec.plain.varTypes Tryd.prog ++ Tryd.f3.resultTypes.toList)) = true := by kernel_rfl
theorem looks : false = Tryd.prog.looks [] := by kernel_rfl
theorem goes : false = Rows.lexerNilRow.goesBy Tryd.prog := by kernel_rfl
theorem byText : Rows.lexerNilRow.wfByText (OpenSpec.ofChange Rows.lexerNilSpec) = true := by kernel_rfl
theorem main : Tryd.prog.mainIs = some (Rows.lexerNilCard.stood.harness.1, Rows.lexerNilCard.stood.harness.2.toList) := by kernel_rfl
end Go.Proofs.YtknjmnabibjhfabDoor.LexerNilFx
