/- The example of the chapter (known): it returns true, and below the heap as it was nothing has turned. Condition: the listed tables. -/
import Derived.Test.YtdkkblkbonjjgabGreatDoorTabs
namespace Go.Proofs.YtdkkblkbonjjgabGreatDoor
open Go Go.RowKit
theorem known_runs : Ev.isTrue (@Ev.callF Ev.env0 (@Ev.Cx.plain Ev.env0 Tryz.prog (Ev.oldL tabs)) 1000000 4 [] Ev.noSt) = true := by kernel_rfl
theorem known_ok (w : World) (h : Laid w) : Calls Tryz.prog 4 #[] w fun e w' => e = .returned (.bool true) ∧ Below w.heap.size w w' :=
  Ev.closed_trueF good known_runs h
end Go.Proofs.YtdkkblkbonjjgabGreatDoor
