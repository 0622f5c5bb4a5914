/- The law FormulaReserved: its walk, by the reckoner. Condition: the listed tables. -/
import Derived.Test.YtknjmnabibjhfadGreatDoorForRA
import Derived.Test.YtknjmnabibjhfadGreatDoorForRB
import Derived.DataShut
import Derived.IntWalk
namespace Go.Proofs.YtknjmnabibjhfadGreatDoor
open Go Go.RowKit
theorem of_run {n k : Int} {h : (IntKind.i64.wrap n).tmod 19 = k} (hr : runR n k h = true) (w : World) (hL : Laid w) :
    Calls Tryz.prog 3 #[.int .u8 n] w fun e w' => e = .returned (.bool true) ∧ Below w.heap.size w w' :=
  @Ev.named_trueF (envI n) (@cxk (envI n) _ (rest_facts h)) good 1000000 3 _ [.int .u8 n] rfl hr w hL.old
theorem formulaReserved_walk (n : Int) (w : World) (hL : Laid w) (wn : (Lit.int .u8 n).wf = true) :
    Calls Tryz.prog 3 #[.int .u8 n] w fun e w' => e = .returned (.bool true) ∧ Below w.heap.size w w' := by
  have hb : 0 ≤ n ∧ n ≤ 255 := (Lit.wf_int_iff .u8 n).1 wn
  have hw : IntKind.i64.wrap n = n := IntWalk.i64_in _ (by omega)
  have hm : (IntKind.i64.wrap n).tmod 19 = n % 19 := by rw [hw]; exact Int.tmod_eq_emod_of_nonneg hb.1
  have h0 : 0 ≤ n % 19 := by omega
  have h1 : n % 19 < 19 := by omega
  have cases19 : n % 19 = 0 ∨ n % 19 = 1 ∨ n % 19 = 2 ∨ n % 19 = 3 ∨ n % 19 = 4 ∨ n % 19 = 5 ∨ n % 19 = 6 ∨ n % 19 = 7 ∨ n % 19 = 8 ∨ n % 19 = 9 ∨ n % 19 = 10 ∨ n % 19 = 11 ∨ n % 19 = 12 ∨ n % 19 = 13 ∨ n % 19 = 14 ∨ n % 19 = 15 ∨ n % 19 = 16 ∨ n % 19 = 17 ∨ n % 19 = 18 := by omega
  rcases cases19 with h | h | h | h | h | h | h | h | h | h | h | h | h | h | h | h | h | h | h
  · exact of_run (run0 n (hm.trans h)) w hL
  · exact of_run (run1 n (hm.trans h)) w hL
  · exact of_run (run2 n (hm.trans h)) w hL
  · exact of_run (run3 n (hm.trans h)) w hL
  · exact of_run (run4 n (hm.trans h)) w hL
  · exact of_run (run5 n (hm.trans h)) w hL
  · exact of_run (run6 n (hm.trans h)) w hL
  · exact of_run (run7 n (hm.trans h)) w hL
  · exact of_run (run8 n (hm.trans h)) w hL
  · exact of_run (run9 n (hm.trans h)) w hL
  · exact of_run (run10 n (hm.trans h)) w hL
  · exact of_run (run11 n (hm.trans h)) w hL
  · exact of_run (run12 n (hm.trans h)) w hL
  · exact of_run (run13 n (hm.trans h)) w hL
  · exact of_run (run14 n (hm.trans h)) w hL
  · exact of_run (run15 n (hm.trans h)) w hL
  · exact of_run (run16 n (hm.trans h)) w hL
  · exact of_run (run17 n (hm.trans h)) w hL
  · exact of_run (run18 n (hm.trans h)) w hL
end Go.Proofs.YtknjmnabibjhfadGreatDoor
