/- The reckoner with facts on names, which knows what the example comes to. No condition but the listed tables. -/
import Derived.Test.YtknjmnabibjhfadGreatDoorKnown
namespace Go.Proofs.YtknjmnabibjhfadGreatDoor
open Go Go.RowKit
/-- The reckoner with facts, which knows what the example comes to. -/
theorem known_call [Ev.Env] : ∀ c ∈ [(5, ([] : List Ev.SV), Ev.SV.lit (.bool true))], Ev.CallOK Tryz.prog (Ev.oldL tabs) c ∧ (Ev.concs (fun _ => none) c.2.1).isSome = true ∧ (Ev.conc (fun _ => none) c.2.2).isSome = true := by
  intro c hc
  rw [List.mem_singleton] at hc
  subst hc
  refine ⟨fun w us r hold hu hr => ?_, by simp [Ev.concs], by simp [Ev.conc]⟩
  simp only [Ev.concs, Option.some.injEq] at hu
  simp only [Ev.conc, Option.some.injEq] at hr
  subst hu; subst hr
  exact known_ok w (laid_of_old hold)
noncomputable def cxk [Ev.Env] (fs : List Ev.Fact) (h : ∀ f ∈ fs, f.holds) : Ev.Cx := ⟨Tryz.prog, Ev.oldL tabs, fs, h, [(5, [], .lit (.bool true))], known_call⟩
end Go.Proofs.YtknjmnabibjhfadGreatDoor
