/- The law ExprCalculates: runs by the reckoner. No condition. -/
import Derived.Test.YtcifakhpggoebabGreatDoorExprDef
namespace Go.Proofs.YtcifakhpggoebabGreatDoor
open Go Go.RowKit Go.PlainAid
section
variable {v : Nat → Int}
theorem run_c1trueLow (h : Holds v (okA ++ (okB ++ (.lt (.v 11) (.lit 0) true :: .eq (.v 7) (.lit 0) false :: fLow)))) (t : Goods v [cKnown, cAdd1, cCmp, cDiv2]) : Runs h t = true := by kernel_rfl
theorem run_c1trueHigh (h : Holds v (okA ++ (okB ++ (.lt (.v 11) (.lit 0) true :: .eq (.v 7) (.lit 0) false :: fHigh)))) (t : Goods v [cKnown, cAdd1, cCmp, cDiv2]) : Runs h t = true := by kernel_rfl
theorem run_c1trueZero0 (h : Holds v (okA ++ (okB ++ (.lt (.v 11) (.lit 0) true :: .eq (.v 7) (.lit 0) false :: fZero)))) (t : Goods v [cKnown, cAdd1, cCmp, cDiv0]) : Runs h t = true := by kernel_rfl
theorem run_c1trueZero1 (h : Holds v (okA ++ (okB ++ (.lt (.v 11) (.lit 0) true :: .eq (.v 7) (.lit 0) false :: .eq (.v 10) (.lit 0) false :: fZero)))) (t : Goods v [cKnown, cAdd1, cCmp, cDiv1]) : Runs h t = true := by kernel_rfl
theorem run_c1trueIn0 (h : Holds v (okA ++ (okB ++ (.lt (.v 11) (.lit 0) true :: .eq (.v 7) (.lit 0) false :: fIn)))) (t : Goods v [cKnown, cAdd1, cCmp, cDiv0]) : Runs h t = true := by kernel_rfl
theorem run_c1trueIn1 (h : Holds v (okA ++ (okB ++ (.lt (.v 11) (.lit 0) true :: .eq (.v 7) (.lit 0) false :: .eq (.v 10) (.lit 0) false :: fIn)))) (t : Goods v [cKnown, cAdd1, cCmp, cDiv1]) : Runs h t = true := by kernel_rfl
theorem run_c1falseLow (h : Holds v (okA ++ (okB ++ (.lt (.v 11) (.lit 0) false :: .eq (.v 7) (.lit 0) false :: fLow)))) (t : Goods v [cKnown, cAdd1, cCmp, cDiv2]) : Runs h t = true := by kernel_rfl
theorem run_c1falseHigh (h : Holds v (okA ++ (okB ++ (.lt (.v 11) (.lit 0) false :: .eq (.v 7) (.lit 0) false :: fHigh)))) (t : Goods v [cKnown, cAdd1, cCmp, cDiv2]) : Runs h t = true := by kernel_rfl
theorem run_c1falseZero0 (h : Holds v (okA ++ (okB ++ (.lt (.v 11) (.lit 0) false :: .eq (.v 7) (.lit 0) false :: fZero)))) (t : Goods v [cKnown, cAdd1, cCmp, cDiv0]) : Runs h t = true := by kernel_rfl
theorem run_c1falseZero1 (h : Holds v (okA ++ (okB ++ (.lt (.v 11) (.lit 0) false :: .eq (.v 7) (.lit 0) false :: .eq (.v 10) (.lit 0) false :: fZero)))) (t : Goods v [cKnown, cAdd1, cCmp, cDiv1]) : Runs h t = true := by kernel_rfl
theorem run_c1falseIn0 (h : Holds v (okA ++ (okB ++ (.lt (.v 11) (.lit 0) false :: .eq (.v 7) (.lit 0) false :: fIn)))) (t : Goods v [cKnown, cAdd1, cCmp, cDiv0]) : Runs h t = true := by kernel_rfl
theorem run_c1falseIn1 (h : Holds v (okA ++ (okB ++ (.lt (.v 11) (.lit 0) false :: .eq (.v 7) (.lit 0) false :: .eq (.v 10) (.lit 0) false :: fIn)))) (t : Goods v [cKnown, cAdd1, cCmp, cDiv1]) : Runs h t = true := by kernel_rfl
end
end Go.Proofs.YtcifakhpggoebabGreatDoor
