/- The law FormulaReserved: what its runs are. Condition: the listed tables. -/
import Derived.Test.YtknjmnabibjhfadGreatDoorSym
namespace Go.Proofs.YtknjmnabibjhfadGreatDoor
open Go Go.RowKit
abbrev envI (n : Int) : Ev.Env := ⟨fun _ => n, fun _ => ⟨#[]⟩⟩
abbrev restE : Ev.IE := .op .rem .i64 (.conv .i64 (.v 0)) (.lit 19)
abbrev restF (k : Int) : List Ev.Fact := [.lo restE k, .hi restE k]
theorem rest_facts {n k : Int} (h : (IntKind.i64.wrap n).tmod 19 = k) : ∀ f ∈ restF k, @Ev.Fact.holds (envI n) f := by
  intro f hf
  simp only [List.mem_cons, List.mem_nil_iff, or_false] at hf
  rcases hf with rfl | rfl
  · show k ≤ (IntKind.i64.wrap n).tmod 19
    omega
  · show (IntKind.i64.wrap n).tmod 19 ≤ k
    omega
noncomputable def runR (n k : Int) (h : (IntKind.i64.wrap n).tmod 19 = k) : Bool := Ev.isTrue (@Ev.callF (envI n) (@cxk (envI n) _ (rest_facts h)) 1000000 3 [.sint .u8 (.v 0)] Ev.noSt)
end Go.Proofs.YtknjmnabibjhfadGreatDoor
