/- The law EvolveNames: its walk, by the reckoner. Condition: the listed tables. -/
import Derived.Test.YtclhbnmliecgkacGreatDoorSym
namespace Go.Proofs.YtclhbnmliecgkacGreatDoor
open Go Go.RowKit
abbrev envI (n : Int) : Ev.Env := ⟨fun _ => n, fun _ => ⟨#[]⟩⟩
theorem low_facts (n : Int) (h : n ≤ -1) : ∀ f ∈ [Ev.Fact.hi (.v 0) (-1)], @Ev.Fact.holds (envI n) f := by
  intro f hf
  rw [List.mem_singleton] at hf
  subst hf
  exact h
theorem high_facts (n : Int) (h : 8 ≤ n) : ∀ f ∈ [Ev.Fact.lo (.v 0) 8], @Ev.Fact.holds (envI n) f := by
  intro f hf
  rw [List.mem_singleton] at hf
  subst hf
  exact h
theorem low_runs (n : Int) (h : n ≤ -1) : Ev.isTrue (@Ev.callF (envI n) (@cxk (envI n) _ (low_facts n h)) 1000000 3 [.sint .i64 (.v 0)] Ev.noSt) = true := by kernel_rfl
theorem high_runs (n : Int) (h : 8 ≤ n) : Ev.isTrue (@Ev.callF (envI n) (@cxk (envI n) _ (high_facts n h)) 1000000 3 [.sint .i64 (.v 0)] Ev.noSt) = true := by kernel_rfl
theorem mid_runs : ([0, 1, 2, 3, 4, 5, 6, 7].all fun k : Int => Ev.isTrue (@Ev.callF Ev.env0 (@cxk Ev.env0 [] (fun _ h => (List.not_mem_nil h).elim)) 1000000 3 [.lit (.int .i64 k)] Ev.noSt)) = true := by kernel_rfl
theorem evolveNames_walk (n : Int) (w : World) (hL : Laid w) (_wn : (Lit.int .i64 n).wf = true) : Calls Tryz.prog 3 #[.int .i64 n] w fun e w' => e = .returned (.bool true) ∧ Below w.heap.size w w' := by
  by_cases h1 : n ≤ -1
  · exact @Ev.named_trueF (envI n) (@cxk (envI n) _ (low_facts n h1)) good 1000000 3 _ [.int .i64 n] rfl (low_runs n h1) w hL.old
  · by_cases h2 : 8 ≤ n
    · exact @Ev.named_trueF (envI n) (@cxk (envI n) _ (high_facts n h2)) good 1000000 3 _ [.int .i64 n] rfl (high_runs n h2) w hL.old
    · have hm : n ∈ ([0, 1, 2, 3, 4, 5, 6, 7] : List Int) := by
        simp only [List.mem_cons, List.mem_nil_iff, or_false]
        omega
      have hr := List.all_eq_true.1 mid_runs n hm
      exact @Ev.named_trueF Ev.env0 (@cxk Ev.env0 [] (fun _ h => (List.not_mem_nil h).elim)) good 1000000 3 [.lit (.int .i64 n)] [.int .i64 n] (@Ev.concs_lits Ev.env0 _ [.int .i64 n]) hr w hL.old
end Go.Proofs.YtclhbnmliecgkacGreatDoor
