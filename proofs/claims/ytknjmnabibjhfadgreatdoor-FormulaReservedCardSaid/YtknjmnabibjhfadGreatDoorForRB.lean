/- The law FormulaReserved: runs by the reckoner, one for each word. No condition. -/
import Derived.Test.YtknjmnabibjhfadGreatDoorForDef
namespace Go.Proofs.YtknjmnabibjhfadGreatDoor
open Go Go.RowKit
section
variable (n : Int)
theorem run10 (h : (IntKind.i64.wrap n).tmod 19 = 10) : runR n 10 h = true := by kernel_rfl
theorem run11 (h : (IntKind.i64.wrap n).tmod 19 = 11) : runR n 11 h = true := by kernel_rfl
theorem run12 (h : (IntKind.i64.wrap n).tmod 19 = 12) : runR n 12 h = true := by kernel_rfl
theorem run13 (h : (IntKind.i64.wrap n).tmod 19 = 13) : runR n 13 h = true := by kernel_rfl
theorem run14 (h : (IntKind.i64.wrap n).tmod 19 = 14) : runR n 14 h = true := by kernel_rfl
theorem run15 (h : (IntKind.i64.wrap n).tmod 19 = 15) : runR n 15 h = true := by kernel_rfl
theorem run16 (h : (IntKind.i64.wrap n).tmod 19 = 16) : runR n 16 h = true := by kernel_rfl
theorem run17 (h : (IntKind.i64.wrap n).tmod 19 = 17) : runR n 17 h = true := by kernel_rfl
theorem run18 (h : (IntKind.i64.wrap n).tmod 19 = 18) : runR n 18 h = true := by kernel_rfl
end
end Go.Proofs.YtknjmnabibjhfadGreatDoor
