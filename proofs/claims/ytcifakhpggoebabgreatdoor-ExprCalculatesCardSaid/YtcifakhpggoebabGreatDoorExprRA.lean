/- The law ExprCalculates: runs by the reckoner. No condition. -/
import Derived.Test.YtcifakhpggoebabGreatDoorExprDef
namespace Go.Proofs.YtcifakhpggoebabGreatDoor
open Go Go.RowKit Go.PlainAid
section
variable {v : Nat → Int}
theorem run_a0Low (h : Holds v (noA 0 ++ fLow)) (t : Goods v [cKnown]) : Runs h t = true := by kernel_rfl
theorem run_a0High (h : Holds v (noA 0 ++ fHigh)) (t : Goods v [cKnown]) : Runs h t = true := by kernel_rfl
theorem run_a0Zero (h : Holds v (noA 0 ++ fZero)) (t : Goods v [cKnown]) : Runs h t = true := by kernel_rfl
theorem run_a0In (h : Holds v (noA 0 ++ fIn)) (t : Goods v [cKnown]) : Runs h t = true := by kernel_rfl
theorem run_a1Low (h : Holds v (noA 1 ++ fLow)) (t : Goods v [cKnown]) : Runs h t = true := by kernel_rfl
theorem run_a1High (h : Holds v (noA 1 ++ fHigh)) (t : Goods v [cKnown]) : Runs h t = true := by kernel_rfl
theorem run_a1Zero (h : Holds v (noA 1 ++ fZero)) (t : Goods v [cKnown]) : Runs h t = true := by kernel_rfl
theorem run_a1In (h : Holds v (noA 1 ++ fIn)) (t : Goods v [cKnown]) : Runs h t = true := by kernel_rfl
theorem run_a2Low (h : Holds v (noA 2 ++ fLow)) (t : Goods v [cKnown]) : Runs h t = true := by kernel_rfl
theorem run_a2High (h : Holds v (noA 2 ++ fHigh)) (t : Goods v [cKnown]) : Runs h t = true := by kernel_rfl
theorem run_a2Zero (h : Holds v (noA 2 ++ fZero)) (t : Goods v [cKnown]) : Runs h t = true := by kernel_rfl
theorem run_a2In (h : Holds v (noA 2 ++ fIn)) (t : Goods v [cKnown]) : Runs h t = true := by kernel_rfl
theorem run_a3Low (h : Holds v (noA 3 ++ fLow)) (t : Goods v [cKnown]) : Runs h t = true := by kernel_rfl
theorem run_a3High (h : Holds v (noA 3 ++ fHigh)) (t : Goods v [cKnown]) : Runs h t = true := by kernel_rfl
theorem run_a3Zero (h : Holds v (noA 3 ++ fZero)) (t : Goods v [cKnown]) : Runs h t = true := by kernel_rfl
theorem run_a3In (h : Holds v (noA 3 ++ fIn)) (t : Goods v [cKnown]) : Runs h t = true := by kernel_rfl
end
end Go.Proofs.YtcifakhpggoebabGreatDoor
