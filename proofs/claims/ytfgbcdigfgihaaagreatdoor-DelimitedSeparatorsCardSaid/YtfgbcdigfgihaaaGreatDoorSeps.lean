/- The law DelimitedSeparators: its walk, by the reckoner. Condition: the listed tables. -/
import Derived.Test.YtfgbcdigfgihaaaGreatDoorSym
namespace Go.Proofs.YtfgbcdigfgihaaaGreatDoor
open Go Go.RowKit
abbrev envI (n : Int) : Ev.Env := ⟨fun _ => n, fun _ => ⟨#[]⟩⟩
def seps : List Int := [9, 44, 59, 124, 58, 94, 126, 35]
def sepFacts : List Ev.Fact := seps.map fun k => .eq (.v 0) (.lit k) false
theorem sep_facts (n : Int) (h : n ∉ seps) : ∀ f ∈ sepFacts, @Ev.Fact.holds (envI n) f := by
  intro f hf
  simp only [sepFacts, List.mem_map] at hf
  obtain ⟨k, hk, rfl⟩ := hf
  exact decide_eq_false (fun e => h (by
    have e : n = k := e
    rw [e]; exact hk))
theorem sep_other_runs (n : Int) (h : n ∉ seps) : Ev.isTrue (@Ev.call (envI n) (@cxk (envI n) sepFacts (sep_facts n h)) 1000000 3 [.sint .i64 (.v 0)] Ev.noSt) = true := by kernel_rfl
theorem sep_other (n : Int) (h : n ∉ seps) (w : World) (hL : Laid w) : Calls Tryz.prog 3 #[.int .i64 n] w fun e w' => e = .returned (.bool true) ∧ Below w.heap.size w w' :=
  @Ev.named_true (envI n) (@cxk (envI n) sepFacts (sep_facts n h)) good 1000000 3 _ [.int .i64 n] rfl (sep_other_runs n h) w hL.old
theorem sep_runs : (seps.all fun k => Ev.isTrue (@Ev.call Ev.env0 (@cxk Ev.env0 [] (fun _ h => (List.not_mem_nil h).elim)) 1000000 3 [.lit (.int .i64 k)] Ev.noSt)) = true := by kernel_rfl
theorem delimitedSeparators_walk (n : Int) (w : World) (hL : Laid w) (_wn : (Lit.int .i64 n).wf = true) : Calls Tryz.prog 3 #[.int .i64 n] w fun e w' => e = .returned (.bool true) ∧ Below w.heap.size w w' := by
  by_cases h : n ∈ seps
  · have hr := List.all_eq_true.1 sep_runs n h
    exact @Ev.named_true Ev.env0 (@cxk Ev.env0 [] (fun _ h => (List.not_mem_nil h).elim)) good 1000000 3 [.lit (.int .i64 n)] [.int .i64 n] (@Ev.concs_lits Ev.env0 _ [.int .i64 n]) hr w hL.old
  · exact sep_other n h w hL
end Go.Proofs.YtfgbcdigfgihaaaGreatDoor
