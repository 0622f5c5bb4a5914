/- The law FormulaReserved: runs by the reckoner, one for each word. No condition. -/
import Derived.Test.YtknjmnabibjhfadGreatDoorForDef
namespace Go.Proofs.YtknjmnabibjhfadGreatDoor
open Go Go.RowKit
section
variable (n : Int)
theorem run0 (h : (IntKind.i64.wrap n).tmod 19 = 0) : runR n 0 h = true := by kernel_rfl
theorem run1 (h : (IntKind.i64.wrap n).tmod 19 = 1) : runR n 1 h = true := by kernel_rfl
theorem run2 (h : (IntKind.i64.wrap n).tmod 19 = 2) : runR n 2 h = true := by kernel_rfl
theorem run3 (h : (IntKind.i64.wrap n).tmod 19 = 3) : runR n 3 h = true := by kernel_rfl
theorem run4 (h : (IntKind.i64.wrap n).tmod 19 = 4) : runR n 4 h = true := by kernel_rfl
theorem run5 (h : (IntKind.i64.wrap n).tmod 19 = 5) : runR n 5 h = true := by kernel_rfl
theorem run6 (h : (IntKind.i64.wrap n).tmod 19 = 6) : runR n 6 h = true := by kernel_rfl
theorem run7 (h : (IntKind.i64.wrap n).tmod 19 = 7) : runR n 7 h = true := by kernel_rfl
theorem run8 (h : (IntKind.i64.wrap n).tmod 19 = 8) : runR n 8 h = true := by kernel_rfl
theorem run9 (h : (IntKind.i64.wrap n).tmod 19 = 9) : runR n 9 h = true := by kernel_rfl
end
end Go.Proofs.YtknjmnabibjhfadGreatDoor
