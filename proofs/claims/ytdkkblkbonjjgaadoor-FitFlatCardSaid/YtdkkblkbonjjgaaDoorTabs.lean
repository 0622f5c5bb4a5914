/- The tables that the laws read: what the listed package-level variables hold. No condition. -/
import Derived.Test.YtdkkblkbonjjgaaDoorEvF
import Derived.Test.YtdkkblkbonjjgaaDoorProg
import Derived.KernelRfl
namespace Go.Proofs.YtdkkblkbonjjgaaDoor
open Go Go.RowKit
def tab0 : List Value := [.int .u8 128, .int .u8 0, .int .i64 0, .int .u8 224, .int .u8 192, .int .i64 128, .int .u8 240, .int .u8 224, .int .i64 2048, .int .u8 248, .int .u8 240, .int .i64 65536]
def tab1 : List Value := [.int .u8 0, .int .u8 1, .int .u8 28, .int .u8 2, .int .u8 29, .int .u8 14, .int .u8 24, .int .u8 3, .int .u8 30, .int .u8 22, .int .u8 20, .int .u8 15, .int .u8 25, .int .u8 17, .int .u8 4, .int .u8 8, .int .u8 31, .int .u8 27, .int .u8 13, .int .u8 23, .int .u8 21, .int .u8 19, .int .u8 16, .int .u8 7, .int .u8 26, .int .u8 12, .int .u8 18, .int .u8 6, .int .u8 11, .int .u8 5, .int .u8 10, .int .u8 9]
def tab2 : List Value := [.int .u8 0, .int .u8 1, .int .u8 56, .int .u8 2, .int .u8 57, .int .u8 49, .int .u8 28, .int .u8 3, .int .u8 61, .int .u8 58, .int .u8 42, .int .u8 50, .int .u8 38, .int .u8 29, .int .u8 17, .int .u8 4, .int .u8 62, .int .u8 47, .int .u8 59, .int .u8 36, .int .u8 45, .int .u8 43, .int .u8 51, .int .u8 22, .int .u8 53, .int .u8 39, .int .u8 33, .int .u8 30, .int .u8 24, .int .u8 18, .int .u8 12, .int .u8 5, .int .u8 63, .int .u8 55, .int .u8 48, .int .u8 27, .int .u8 60, .int .u8 41, .int .u8 37, .int .u8 16, .int .u8 46, .int .u8 35, .int .u8 44, .int .u8 21, .int .u8 52, .int .u8 32, .int .u8 23, .int .u8 11, .int .u8 54, .int .u8 26, .int .u8 40, .int .u8 15, .int .u8 34, .int .u8 20, .int .u8 31, .int .u8 10, .int .u8 25, .int .u8 14, .int .u8 19, .int .u8 9, .int .u8 13, .int .u8 8, .int .u8 7, .int .u8 6]
def tab3 : List Value := [.int .u64 1, .int .u64 10, .int .u64 100, .int .u64 1000, .int .u64 10000, .int .u64 100000, .int .u64 1000000, .int .u64 10000000, .int .u64 100000000, .int .u64 1000000000, .int .u64 10000000000, .int .u64 100000000000, .int .u64 1000000000000, .int .u64 10000000000000, .int .u64 100000000000000, .int .u64 1000000000000000, .int .u64 10000000000000000, .int .u64 100000000000000000, .int .u64 1000000000000000000, .int .u64 10000000000000000000]
def tabs : List (Nat × List Value) := [(0, tab0), (2, tab1), (3, tab2), (1, tab3)]
/-- the tables are as the program lays them -/
def Laid (w : World) : Prop := ∀ x ∈ tabs, ∀ (i : Nat) v, x.2[i]? = some v → w.cell? ⟨x.1, i, none⟩ = some v
theorem Laid.below {w w' : World} (h : Laid w) (hb : Below w.heap.size w w') : Laid w' := fun x hx i v hv =>
  (hb.cell (World.block_lt_of_cell? w _ (h x hx i v hv))).trans (h x hx i v hv)
theorem names_all : (Tryd.prog.funcs.toList.all fun fn => fn.body.isNone || !(fn.name == "runtime.NumGoroutine")) = true := by kernel_rfl
theorem good : Ev.Good Tryd.prog := Ev.good_of names_all (by kernel_rfl)
theorem Laid.old {w : World} (h : Laid w) : ∀ b i v, Ev.oldL tabs b i = some v → w.cell? ⟨b, i, none⟩ = some v := Ev.oldL_ok h
theorem laid_of_old {w : World} (h : ∀ b i v, Ev.oldL tabs b i = some v → w.cell? ⟨b, i, none⟩ = some v) : Laid w := by
  intro x hx i v hv
  simp only [tabs, List.mem_cons, List.mem_nil_iff, or_false] at hx
  rcases hx with rfl | rfl | rfl | rfl
  all_goals exact h _ i v hv
end Go.Proofs.YtdkkblkbonjjgaaDoor
