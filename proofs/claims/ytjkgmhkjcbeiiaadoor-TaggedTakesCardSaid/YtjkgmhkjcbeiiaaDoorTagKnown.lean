/- The example of the chapter on tagged bytes (known): it returns true, and below the heap as it was nothing has turned. Condition: the limits of types hold what the program's text lays. -/
import Derived.Test.YtjkgmhkjcbeiiaaDoorEv5
import Derived.Test.YtjkgmhkjcbeiiaaDoorProg
import Derived.KernelRfl
namespace Go.Proofs.YtjkgmhkjcbeiiaaDoor
open Go Go.RowKit

def limV : List Value := [0, 0, 0, 0, -999999999999999, 999999999999999, -999999999999999, 999999999999999, 0, 1024, 0, 1024, -719162, 2932896, -62135596800000, 253402300799999, 0, 256, 0, 0, 0, 0].map (Value.int .i64)
/-- the limits of types -/
structure Laid (w : World) : Prop where
  lim : ∀ i : Nat, w.cell? ⟨0, i, none⟩ = limV[i]?
theorem Laid.below {w w' : World} (h : Laid w) (hb : Below w.heap.size w w') : Laid w' := by
  have h0 : 0 < w.heap.size := World.block_lt_of_cell? w _ ((h.lim 0).trans (by rfl : limV[0]? = some (.int .i64 0)))
  exact ⟨fun i => (hb.cell h0).trans (h.lim i)⟩
theorem names_all : (Tryd.prog.funcs.toList.all fun fn => fn.body.isNone || !(fn.name == "runtime.NumGoroutine")) = true := by kernel_rfl
theorem good : Ev.Good Tryd.prog := Ev.good_of names_all (by kernel_rfl)
theorem known_runs : Ev.isTrue (Ev.call { P := Tryd.prog, old := Ev.oldL [(0, limV)] } 1000000 5 [] Ev.noSt) = true := by kernel_rfl
theorem known_ok (w : World) (h : Laid w) : Calls Tryd.prog 5 #[] w fun e w' => e = .returned (.bool true) ∧ Below w.heap.size w w' :=
  Ev.closed_true good known_runs (fun x hx i v hv => by
    simp only [List.mem_cons, List.mem_nil_iff, or_false] at hx
    subst hx
    exact (h.lim i).trans hv)
end Go.Proofs.YtjkgmhkjcbeiiaaDoor
