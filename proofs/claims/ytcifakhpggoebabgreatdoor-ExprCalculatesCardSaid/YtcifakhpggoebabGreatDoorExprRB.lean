/- The law ExprCalculates: runs by the reckoner. No condition. -/
import Derived.Test.YtcifakhpggoebabGreatDoorExprDef
namespace Go.Proofs.YtcifakhpggoebabGreatDoor
open Go Go.RowKit Go.PlainAid
section
variable {v : Nat → Int}
theorem run_b0Low (h : Holds v (okA ++ (noB 0 ++ fLow))) (t : Goods v [cKnown]) : Runs h t = true := by kernel_rfl
theorem run_b0High (h : Holds v (okA ++ (noB 0 ++ fHigh))) (t : Goods v [cKnown]) : Runs h t = true := by kernel_rfl
theorem run_b0Zero (h : Holds v (okA ++ (noB 0 ++ fZero))) (t : Goods v [cKnown]) : Runs h t = true := by kernel_rfl
theorem run_b0In (h : Holds v (okA ++ (noB 0 ++ fIn))) (t : Goods v [cKnown]) : Runs h t = true := by kernel_rfl
theorem run_b1Low (h : Holds v (okA ++ (noB 1 ++ fLow))) (t : Goods v [cKnown]) : Runs h t = true := by kernel_rfl
theorem run_b1High (h : Holds v (okA ++ (noB 1 ++ fHigh))) (t : Goods v [cKnown]) : Runs h t = true := by kernel_rfl
theorem run_b1Zero (h : Holds v (okA ++ (noB 1 ++ fZero))) (t : Goods v [cKnown]) : Runs h t = true := by kernel_rfl
theorem run_b1In (h : Holds v (okA ++ (noB 1 ++ fIn))) (t : Goods v [cKnown]) : Runs h t = true := by kernel_rfl
theorem run_b2Low (h : Holds v (okA ++ (noB 2 ++ fLow))) (t : Goods v [cKnown]) : Runs h t = true := by kernel_rfl
theorem run_b2High (h : Holds v (okA ++ (noB 2 ++ fHigh))) (t : Goods v [cKnown]) : Runs h t = true := by kernel_rfl
theorem run_b2Zero (h : Holds v (okA ++ (noB 2 ++ fZero))) (t : Goods v [cKnown]) : Runs h t = true := by kernel_rfl
theorem run_b2In (h : Holds v (okA ++ (noB 2 ++ fIn))) (t : Goods v [cKnown]) : Runs h t = true := by kernel_rfl
theorem run_b3Low (h : Holds v (okA ++ (noB 3 ++ fLow))) (t : Goods v [cKnown]) : Runs h t = true := by kernel_rfl
theorem run_b3High (h : Holds v (okA ++ (noB 3 ++ fHigh))) (t : Goods v [cKnown]) : Runs h t = true := by kernel_rfl
theorem run_b3Zero (h : Holds v (okA ++ (noB 3 ++ fZero))) (t : Goods v [cKnown]) : Runs h t = true := by kernel_rfl
theorem run_b3In (h : Holds v (okA ++ (noB 3 ++ fIn))) (t : Goods v [cKnown]) : Runs h t = true := by kernel_rfl
end
end Go.Proofs.YtcifakhpggoebabGreatDoor
