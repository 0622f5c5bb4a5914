/- The law FitNames: its walk, by the reckoner. Condition: the listed tables. -/
import Derived.Test.YtjppaamnicknnaaDoorSym
namespace Go.Proofs.YtjppaamnicknnaaDoor
open Go Go.RowKit
abbrev envM (k : Int) (s : ByteArray) : Ev.Env := ⟨fun _ => k, fun _ => s⟩
def codesL : List Int := [0, 1, 2, 3, 4, 5, 6, 7, 8]
abbrev shortF : List Ev.Fact := [.hi (.len (.v 0)) 100, .seq (.v 0) (.lit ⟨#[]⟩) false]
abbrev longF : List Ev.Fact := [.lo (.len (.v 0)) 101, .hi (.len (.sub (.v 0) 0 100)) 100, .seq (.sub (.v 0) 0 100) (.lit ⟨#[]⟩) false]
section
variable {k : Int} {s : ByteArray}
theorem short_facts (h : s.size ≤ 100) (h0 : s ≠ ⟨#[]⟩) : ∀ f ∈ shortF, @Ev.Fact.holds (envM k s) f := by
  intro f hf
  simp only [List.mem_cons, List.mem_nil_iff, or_false] at hf
  rcases hf with rfl | rfl
  · show (s.size : Int) ≤ 100
    omega
  · exact Ev.seq_ne h0
theorem long_facts (h : 101 ≤ s.size) : ∀ f ∈ longF, @Ev.Fact.holds (envM k s) f := by
  have hz : (s.extract 0 100).size = 100 := by rw [ByteArray.size_extract]; omega
  intro f hf
  simp only [List.mem_cons, List.mem_nil_iff, or_false] at hf
  rcases hf with rfl | rfl | rfl
  · show (101 : Int) ≤ (s.size : Int)
    omega
  · show ((s.extract 0 100).size : Int) ≤ 100
    omega
  · refine Ev.seq_ne (fun e => ?_)
    have e : s.extract 0 100 = ⟨#[]⟩ := e
    rw [e] at hz
    cases hz
theorem lo_facts (h : k ≤ -1) : ∀ f ∈ [Ev.Fact.hi (.v 0) (-1)], @Ev.Fact.holds (envM k s) f := by
  intro f hf
  rw [List.mem_singleton] at hf
  subst hf
  exact h
theorem hi_facts (h : 9 ≤ k) : ∀ f ∈ [Ev.Fact.lo (.v 0) 9], @Ev.Fact.holds (envM k s) f := by
  intro f hf
  rw [List.mem_singleton] at hf
  subst hf
  exact h
theorem no_facts : ∀ f ∈ ([] : List Ev.Fact), @Ev.Fact.holds (envM k s) f := fun _ h => (List.not_mem_nil h).elim
theorem both {a b : List Ev.Fact} (ha : ∀ f ∈ a, @Ev.Fact.holds (envM k s) f) (hb : ∀ f ∈ b, @Ev.Fact.holds (envM k s) f) : ∀ f ∈ a ++ b, @Ev.Fact.holds (envM k s) f := fun f hf => (List.mem_append.1 hf).elim (ha f) (hb f)
end
/-- a run with these facts, this path, this code -/
noncomputable def runM (k : Int) (s : ByteArray) (fs : List Ev.Fact) (h : ∀ f ∈ fs, @Ev.Fact.holds (envM k s) f) (a b : Ev.SV) : Bool := Ev.isTrue (@Ev.call (envM k s) (@cxk (envM k s) fs h) 1000000 3 [.agg [a, b]] Ev.noSt)
theorem of_run {k : Int} {s : ByteArray} {fs : List Ev.Fact} {h : ∀ f ∈ fs, @Ev.Fact.holds (envM k s) f} {a b : Ev.SV} (hr : runM k s fs h a b = true) (ha : @Ev.conc (envM k s) (fun _ => none) a = some (.string s)) (hb : @Ev.conc (envM k s) (fun _ => none) b = some (.int .i64 k)) (w : World) (hL : Laid w) :
    Calls Tryd.prog 3 #[.agg #[.string s, .int .i64 k]] w fun e w' => e = .returned (.bool true) ∧ Below w.heap.size w w' :=
  @Ev.named_true (envM k s) (@cxk (envM k s) fs h) good 1000000 3 [.agg [a, b]] [.agg #[.string s, .int .i64 k]]
    (@Ev.concs_cons (envM k s) _ _ _ _ _ (@Ev.conc_agg (envM k s) _ _ [.string s, .int .i64 k] (@Ev.concs_cons (envM k s) _ _ _ _ _ ha (@Ev.concs_cons (envM k s) _ _ _ _ _ hb (@Ev.concs_nil (envM k s) _)))) (@Ev.concs_nil (envM k s) _)) hr w hL.old
abbrev em : ByteArray := ⟨#[]⟩
theorem run1 : (codesL.all fun k => runM k em [] no_facts (.lit (.string em)) (.lit (.int .i64 k))) = true := by kernel_rfl
theorem run2 (k : Int) (h : k ≤ -1) : runM k em [.hi (.v 0) (-1)] (lo_facts h) (.lit (.string em)) (.sint .i64 (.v 0)) = true := by kernel_rfl
theorem run3 (k : Int) (h : 9 ≤ k) : runM k em [.lo (.v 0) 9] (hi_facts h) (.lit (.string em)) (.sint .i64 (.v 0)) = true := by kernel_rfl
section
variable (s : ByteArray) (h : s.size ≤ 100) (h0 : s ≠ ⟨#[]⟩)
theorem run4 : (codesL.all fun k => runM k s shortF (short_facts h h0) (.sstr (.v 0)) (.lit (.int .i64 k))) = true := by kernel_rfl
theorem run5 (k : Int) (hk : k ≤ -1) : runM k s ([.hi (.v 0) (-1)] ++ shortF) (both (lo_facts hk) (short_facts h h0)) (.sstr (.v 0)) (.sint .i64 (.v 0)) = true := by kernel_rfl
theorem run6 (k : Int) (hk : 9 ≤ k) : runM k s ([.lo (.v 0) 9] ++ shortF) (both (hi_facts hk) (short_facts h h0)) (.sstr (.v 0)) (.sint .i64 (.v 0)) = true := by kernel_rfl
end
section
variable (s : ByteArray) (h : 101 ≤ s.size)
theorem run7 : (codesL.all fun k => runM k s longF (long_facts h) (.sstr (.v 0)) (.lit (.int .i64 k))) = true := by kernel_rfl
theorem run8 (k : Int) (hk : k ≤ -1) : runM k s ([.hi (.v 0) (-1)] ++ longF) (both (lo_facts hk) (long_facts h)) (.sstr (.v 0)) (.sint .i64 (.v 0)) = true := by kernel_rfl
theorem run9 (k : Int) (hk : 9 ≤ k) : runM k s ([.lo (.v 0) 9] ++ longF) (both (hi_facts hk) (long_facts h)) (.sstr (.v 0)) (.sint .i64 (.v 0)) = true := by kernel_rfl
end
theorem fitNames_walk (s : ByteArray) (k : Int) (w : World) (hL : Laid w) :
    Calls Tryd.prog 3 #[.agg #[.string s, .int .i64 k]] w fun e w' => e = .returned (.bool true) ∧ Below w.heap.size w w' := by
  have hk : k ≤ -1 ∨ 9 ≤ k ∨ k ∈ codesL := by
    by_cases h1 : k ≤ -1
    · exact .inl h1
    · by_cases h2 : 9 ≤ k
      · exact .inr (.inl h2)
      · have : k = 0 ∨ k = 1 ∨ k = 2 ∨ k = 3 ∨ k = 4 ∨ k = 5 ∨ k = 6 ∨ k = 7 ∨ k = 8 := by omega
        exact .inr (.inr (by simpa [codesL] using this))
  by_cases h0 : s = ⟨#[]⟩
  · subst h0
    rcases hk with hk | hk | hk
    · exact of_run (run2 k hk) rfl rfl w hL
    · exact of_run (run3 k hk) rfl rfl w hL
    · exact of_run (List.all_eq_true.1 run1 k hk) rfl rfl w hL
  · by_cases h : s.size ≤ 100
    · rcases hk with hk | hk | hk
      · exact of_run (run5 s h h0 k hk) rfl rfl w hL
      · exact of_run (run6 s h h0 k hk) rfl rfl w hL
      · exact of_run (List.all_eq_true.1 (run4 s h h0) k hk) rfl rfl w hL
    · have h : 101 ≤ s.size := by omega
      rcases hk with hk | hk | hk
      · exact of_run (run8 s h k hk) rfl rfl w hL
      · exact of_run (run9 s h k hk) rfl rfl w hL
      · exact of_run (List.all_eq_true.1 (run7 s h) k hk) rfl rfl w hL
end Go.Proofs.YtjppaamnicknnaaDoor
