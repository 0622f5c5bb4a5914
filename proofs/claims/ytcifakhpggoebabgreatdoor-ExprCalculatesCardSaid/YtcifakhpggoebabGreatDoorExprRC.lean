/- The law ExprCalculates: runs by the reckoner. No condition. -/
import Derived.Test.YtcifakhpggoebabGreatDoorExprDef
namespace Go.Proofs.YtcifakhpggoebabGreatDoor
open Go Go.RowKit Go.PlainAid
section
variable {v : Nat → Int}
theorem run_c0trueLow (h : Holds v (okA ++ (okB ++ (.lt (.v 11) (.lit 0) true :: fLow)))) (t : Goods v [cKnown, cAdd0, cCmp, cDiv2]) : Runs h t = true := by kernel_rfl
theorem run_c0trueHigh (h : Holds v (okA ++ (okB ++ (.lt (.v 11) (.lit 0) true :: fHigh)))) (t : Goods v [cKnown, cAdd0, cCmp, cDiv2]) : Runs h t = true := by kernel_rfl
theorem run_c0trueZero0 (h : Holds v (okA ++ (okB ++ (.lt (.v 11) (.lit 0) true :: fZero)))) (t : Goods v [cKnown, cAdd0, cCmp, cDiv0]) : Runs h t = true := by kernel_rfl
theorem run_c0trueZero1 (h : Holds v (okA ++ (okB ++ (.lt (.v 11) (.lit 0) true :: .eq (.v 10) (.lit 0) false :: fZero)))) (t : Goods v [cKnown, cAdd0, cCmp, cDiv1]) : Runs h t = true := by kernel_rfl
theorem run_c0trueIn0 (h : Holds v (okA ++ (okB ++ (.lt (.v 11) (.lit 0) true :: fIn)))) (t : Goods v [cKnown, cAdd0, cCmp, cDiv0]) : Runs h t = true := by kernel_rfl
theorem run_c0trueIn1 (h : Holds v (okA ++ (okB ++ (.lt (.v 11) (.lit 0) true :: .eq (.v 10) (.lit 0) false :: fIn)))) (t : Goods v [cKnown, cAdd0, cCmp, cDiv1]) : Runs h t = true := by kernel_rfl
theorem run_c0falseLow (h : Holds v (okA ++ (okB ++ (.lt (.v 11) (.lit 0) false :: fLow)))) (t : Goods v [cKnown, cAdd0, cCmp, cDiv2]) : Runs h t = true := by kernel_rfl
theorem run_c0falseHigh (h : Holds v (okA ++ (okB ++ (.lt (.v 11) (.lit 0) false :: fHigh)))) (t : Goods v [cKnown, cAdd0, cCmp, cDiv2]) : Runs h t = true := by kernel_rfl
theorem run_c0falseZero0 (h : Holds v (okA ++ (okB ++ (.lt (.v 11) (.lit 0) false :: fZero)))) (t : Goods v [cKnown, cAdd0, cCmp, cDiv0]) : Runs h t = true := by kernel_rfl
theorem run_c0falseZero1 (h : Holds v (okA ++ (okB ++ (.lt (.v 11) (.lit 0) false :: .eq (.v 10) (.lit 0) false :: fZero)))) (t : Goods v [cKnown, cAdd0, cCmp, cDiv1]) : Runs h t = true := by kernel_rfl
theorem run_c0falseIn0 (h : Holds v (okA ++ (okB ++ (.lt (.v 11) (.lit 0) false :: fIn)))) (t : Goods v [cKnown, cAdd0, cCmp, cDiv0]) : Runs h t = true := by kernel_rfl
theorem run_c0falseIn1 (h : Holds v (okA ++ (okB ++ (.lt (.v 11) (.lit 0) false :: .eq (.v 10) (.lit 0) false :: fIn)))) (t : Goods v [cKnown, cAdd0, cCmp, cDiv1]) : Runs h t = true := by kernel_rfl
end
end Go.Proofs.YtcifakhpggoebabGreatDoor
