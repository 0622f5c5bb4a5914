/- The tables that the laws read: what the listed package-level variables hold. No condition. -/
import Derived.Test.YtdkkblkbonjjgabGreatDoorEvF
import Derived.Test.YtdkkblkbonjjgabGreatDoorProg
import Derived.KernelRfl
namespace Go.Proofs.YtdkkblkbonjjgabGreatDoor
open Go Go.RowKit
def tab0 : List Value := [.int .u8 128, .int .u8 191, .int .u8 160, .int .u8 191, .int .u8 128, .int .u8 159, .int .u8 144, .int .u8 191, .int .u8 128, .int .u8 143, .int .u8 0, .int .u8 0, .int .u8 0, .int .u8 0, .int .u8 0, .int .u8 0, .int .u8 0, .int .u8 0, .int .u8 0, .int .u8 0, .int .u8 0, .int .u8 0, .int .u8 0, .int .u8 0, .int .u8 0, .int .u8 0, .int .u8 0, .int .u8 0, .int .u8 0, .int .u8 0, .int .u8 0, .int .u8 0]
def tab1 : List Value := [.int .i64 0, .int .i64 0, .int .i64 0, .int .i64 0, .int .i64 (-999999999999999), .int .i64 999999999999999, .int .i64 (-999999999999999), .int .i64 999999999999999, .int .i64 0, .int .i64 1024, .int .i64 0, .int .i64 1024, .int .i64 (-719162), .int .i64 2932896, .int .i64 (-62135596800000), .int .i64 253402300799999, .int .i64 0, .int .i64 256, .int .i64 0, .int .i64 0, .int .i64 0, .int .i64 0]
def tabs : List (Nat × List Value) := [(2, tab0), (0, tab1)]
/-- the tables are as the program lays them -/
def Laid (w : World) : Prop := ∀ x ∈ tabs, ∀ (i : Nat) v, x.2[i]? = some v → w.cell? ⟨x.1, i, none⟩ = some v
theorem Laid.below {w w' : World} (h : Laid w) (hb : Below w.heap.size w w') : Laid w' := fun x hx i v hv =>
  (hb.cell (World.block_lt_of_cell? w _ (h x hx i v hv))).trans (h x hx i v hv)
theorem names_all : (Tryz.prog.funcs.toList.all fun fn => fn.body.isNone || !(fn.name == "runtime.NumGoroutine")) = true := by kernel_rfl
theorem good : Ev.Good Tryz.prog := Ev.good_of names_all (by kernel_rfl)
theorem Laid.old {w : World} (h : Laid w) : ∀ b i v, Ev.oldL tabs b i = some v → w.cell? ⟨b, i, none⟩ = some v := Ev.oldL_ok h
theorem laid_of_old {w : World} (h : ∀ b i v, Ev.oldL tabs b i = some v → w.cell? ⟨b, i, none⟩ = some v) : Laid w := by
  intro x hx i v hv
  simp only [tabs, List.mem_cons, List.mem_nil_iff, or_false] at hx
  rcases hx with rfl | rfl
  all_goals exact h _ i v hv
end Go.Proofs.YtdkkblkbonjjgabGreatDoor
