/- The law LexerNil: its walk, by the reckoner. Condition: the listed tables. -/
import Derived.Test.YtknjmnabibjhfabDoorSym
namespace Go.Proofs.YtknjmnabibjhfabDoor
open Go Go.RowKit
abbrev envM (k : Int) (s : ByteArray) : Ev.Env := ⟨fun _ => k, fun _ => s⟩
section
variable {k : Int} {s : ByteArray}
theorem lo_facts (h : k ≤ -1) : ∀ f ∈ [Ev.Fact.hi (.v 0) (-1)], @Ev.Fact.holds (envM k s) f := by
  intro f hf
  rw [List.mem_singleton] at hf
  subst hf
  exact h
theorem hi_facts (h : 1 ≤ k) : ∀ f ∈ [Ev.Fact.lo (.v 0) 1], @Ev.Fact.holds (envM k s) f := by
  intro f hf
  rw [List.mem_singleton] at hf
  subst hf
  exact h
theorem no_facts : ∀ f ∈ ([] : List Ev.Fact), @Ev.Fact.holds (envM k s) f := fun _ h => (List.not_mem_nil h).elim
end
/-- a run with these facts, this number -/
noncomputable def runM (k : Int) (s : ByteArray) (fs : List Ev.Fact) (h : ∀ f ∈ fs, @Ev.Fact.holds (envM k s) f) (a : Ev.SV) : Bool := Ev.isTrue (@Ev.callF (envM k s) (@cxk (envM k s) fs h) 1000000 3 [.sstr (.v 0), a] Ev.noSt)
theorem of_run {k : Int} {s : ByteArray} {fs : List Ev.Fact} {h : ∀ f ∈ fs, @Ev.Fact.holds (envM k s) f} {a : Ev.SV} (hr : runM k s fs h a = true) (ha : @Ev.conc (envM k s) (fun _ => none) a = some (.int .i64 k)) (w : World) (hL : Laid w) :
    Calls Tryd.prog 3 #[.string s, .int .i64 k] w fun e w' => e = .returned (.bool true) ∧ Below w.heap.size w w' :=
  @Ev.named_trueF (envM k s) (@cxk (envM k s) fs h) good 1000000 3 [.sstr (.v 0), a] [.string s, .int .i64 k]
    (@Ev.concs_cons (envM k s) _ _ _ _ _ rfl (@Ev.concs_cons (envM k s) _ _ _ _ _ ha (@Ev.concs_nil (envM k s) _))) hr w hL.old
theorem run1 (k : Int) (s : ByteArray) (h : k ≤ -1) : runM k s [.hi (.v 0) (-1)] (lo_facts h) (.sint .i64 (.v 0)) = true := by kernel_rfl
theorem run2 (s : ByteArray) : runM 0 s [] no_facts (.lit (.int .i64 0)) = true := by kernel_rfl
theorem run3 (k : Int) (s : ByteArray) (h : 1 ≤ k) : runM k s [.lo (.v 0) 1] (hi_facts h) (.sint .i64 (.v 0)) = true := by kernel_rfl
theorem lexerNil_walk (s : ByteArray) (k : Int) (w : World) (hL : Laid w) {P Q : Prop} (_ws : P) (_wk : Q) :
    Calls Tryd.prog 3 #[.string s, .int .i64 k] w fun e w' => e = .returned (.bool true) ∧ Below w.heap.size w w' := by
  by_cases h1 : k ≤ -1
  · exact of_run (run1 k s h1) rfl w hL
  · by_cases h3 : 1 ≤ k
    · exact of_run (run3 k s h3) rfl w hL
    · have h : k = 0 := by omega
      subst h
      exact of_run (run2 s) rfl w hL
end Go.Proofs.YtknjmnabibjhfabDoor
