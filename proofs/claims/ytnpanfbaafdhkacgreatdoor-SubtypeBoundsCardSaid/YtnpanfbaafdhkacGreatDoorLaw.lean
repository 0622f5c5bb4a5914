/- The law SubtypeBounds: its walk, by the reckoner. Condition: the listed tables. -/
import Derived.Test.YtnpanfbaafdhkacGreatDoorSym
namespace Go.Proofs.YtnpanfbaafdhkacGreatDoor
open Go Go.RowKit
abbrev envB (a0 a1 b0 b1 : Int) : Ev.Env := ⟨fun n => match n with | 0 => a0 | 1 => a1 | 2 => b0 | _ => b1, fun _ => ⟨#[]⟩⟩
abbrev aF (p1 p2 p3 : Bool) : List Ev.Fact := [.lt (.v 0) (.lit (-999999999999999)) p1, .lt (.v 1) (.v 0) p2, .lt (.lit 999999999999999) (.v 1) p3]
abbrev bF (p1 p2 p3 : Bool) : List Ev.Fact := [.lt (.v 2) (.lit (-999999999999999)) p1, .lt (.v 3) (.v 2) p2, .lt (.lit 999999999999999) (.v 3) p3]
abbrev cF (p1 p2 p3 : Bool) : List Ev.Fact := [.lt (.v 0) (.v 2) p1, .lt (.v 3) (.v 1) p2, .eq (.v 0) (.v 1) p3]
section
variable {a0 a1 b0 b1 : Int} {p1 p2 p3 : Bool}
theorem a_facts (h1 : decide (a0 < -999999999999999) = p1) (h2 : decide (a1 < a0) = p2) (h3 : decide (999999999999999 < a1) = p3) : ∀ f ∈ aF p1 p2 p3, @Ev.Fact.holds (envB a0 a1 b0 b1) f := by
  intro f hf
  simp only [List.mem_cons, List.mem_nil_iff, or_false] at hf
  rcases hf with rfl | rfl | rfl
  · exact h1
  · exact h2
  · exact h3
theorem b_facts (h1 : decide (b0 < -999999999999999) = p1) (h2 : decide (b1 < b0) = p2) (h3 : decide (999999999999999 < b1) = p3) : ∀ f ∈ bF p1 p2 p3, @Ev.Fact.holds (envB a0 a1 b0 b1) f := by
  intro f hf
  simp only [List.mem_cons, List.mem_nil_iff, or_false] at hf
  rcases hf with rfl | rfl | rfl
  · exact h1
  · exact h2
  · exact h3
theorem c_facts (h1 : decide (a0 < b0) = p1) (h2 : decide (b1 < a1) = p2) (h3 : decide (a0 = a1) = p3) : ∀ f ∈ cF p1 p2 p3, @Ev.Fact.holds (envB a0 a1 b0 b1) f := by
  intro f hf
  simp only [List.mem_cons, List.mem_nil_iff, or_false] at hf
  rcases hf with rfl | rfl | rfl
  · exact h1
  · exact h2
  · exact h3
theorem both {a b : List Ev.Fact} (ha : ∀ f ∈ a, @Ev.Fact.holds (envB a0 a1 b0 b1) f) (hb : ∀ f ∈ b, @Ev.Fact.holds (envB a0 a1 b0 b1) f) : ∀ f ∈ a ++ b, @Ev.Fact.holds (envB a0 a1 b0 b1) f := fun f hf => (List.mem_append.1 hf).elim (ha f) (hb f)
end
section
variable (a0 a1 b0 b1 : Int)
/-- a run with these facts -/
noncomputable def runB (fs : List Ev.Fact) (h : ∀ f ∈ fs, @Ev.Fact.holds (envB a0 a1 b0 b1) f) : Bool := Ev.isTrue (@Ev.call (envB a0 a1 b0 b1) (@cxk (envB a0 a1 b0 b1) fs h) 1000000 3 [.agg [.sint .i64 (.v 0), .sint .i64 (.v 1)], .agg [.sint .i64 (.v 2), .sint .i64 (.v 3)]] Ev.noSt)
theorem of_runB {fs : List Ev.Fact} {h : ∀ f ∈ fs, @Ev.Fact.holds (envB a0 a1 b0 b1) f} (hr : runB a0 a1 b0 b1 fs h = true) (w : World) (hL : Laid w) :
    Calls Tryz.prog 3 #[.agg #[.int .i64 a0, .int .i64 a1], .agg #[.int .i64 b0, .int .i64 b1]] w fun e w' => e = .returned (.bool true) ∧ Below w.heap.size w w' :=
  @Ev.named_true (envB a0 a1 b0 b1) (@cxk (envB a0 a1 b0 b1) fs h) good 1000000 3 [.agg [.sint .i64 (.v 0), .sint .i64 (.v 1)], .agg [.sint .i64 (.v 2), .sint .i64 (.v 3)]] [.agg #[.int .i64 a0, .int .i64 a1], .agg #[.int .i64 b0, .int .i64 b1]]
    (by simp only [Ev.concs, Ev.conc, Ev.IE.den, Option.map_some]; rfl) hr w hL.old
theorem runA_fft (h : ∀ f ∈ aF false false true, @Ev.Fact.holds (envB a0 a1 b0 b1) f) : runB a0 a1 b0 b1 (aF false false true) h = true := by kernel_rfl
theorem runA_ftf (h : ∀ f ∈ aF false true false, @Ev.Fact.holds (envB a0 a1 b0 b1) f) : runB a0 a1 b0 b1 (aF false true false) h = true := by kernel_rfl
theorem runA_ftt (h : ∀ f ∈ aF false true true, @Ev.Fact.holds (envB a0 a1 b0 b1) f) : runB a0 a1 b0 b1 (aF false true true) h = true := by kernel_rfl
theorem runA_tff (h : ∀ f ∈ aF true false false, @Ev.Fact.holds (envB a0 a1 b0 b1) f) : runB a0 a1 b0 b1 (aF true false false) h = true := by kernel_rfl
theorem runA_tft (h : ∀ f ∈ aF true false true, @Ev.Fact.holds (envB a0 a1 b0 b1) f) : runB a0 a1 b0 b1 (aF true false true) h = true := by kernel_rfl
theorem runA_ttf (h : ∀ f ∈ aF true true false, @Ev.Fact.holds (envB a0 a1 b0 b1) f) : runB a0 a1 b0 b1 (aF true true false) h = true := by kernel_rfl
theorem runA_ttt (h : ∀ f ∈ aF true true true, @Ev.Fact.holds (envB a0 a1 b0 b1) f) : runB a0 a1 b0 b1 (aF true true true) h = true := by kernel_rfl
theorem runQ_fft (h : ∀ f ∈ aF false false false ++ bF false false true, @Ev.Fact.holds (envB a0 a1 b0 b1) f) : runB a0 a1 b0 b1 (aF false false false ++ bF false false true) h = true := by kernel_rfl
theorem runQ_ftf (h : ∀ f ∈ aF false false false ++ bF false true false, @Ev.Fact.holds (envB a0 a1 b0 b1) f) : runB a0 a1 b0 b1 (aF false false false ++ bF false true false) h = true := by kernel_rfl
theorem runQ_ftt (h : ∀ f ∈ aF false false false ++ bF false true true, @Ev.Fact.holds (envB a0 a1 b0 b1) f) : runB a0 a1 b0 b1 (aF false false false ++ bF false true true) h = true := by kernel_rfl
theorem runQ_tff (h : ∀ f ∈ aF false false false ++ bF true false false, @Ev.Fact.holds (envB a0 a1 b0 b1) f) : runB a0 a1 b0 b1 (aF false false false ++ bF true false false) h = true := by kernel_rfl
theorem runQ_tft (h : ∀ f ∈ aF false false false ++ bF true false true, @Ev.Fact.holds (envB a0 a1 b0 b1) f) : runB a0 a1 b0 b1 (aF false false false ++ bF true false true) h = true := by kernel_rfl
theorem runQ_ttf (h : ∀ f ∈ aF false false false ++ bF true true false, @Ev.Fact.holds (envB a0 a1 b0 b1) f) : runB a0 a1 b0 b1 (aF false false false ++ bF true true false) h = true := by kernel_rfl
theorem runQ_ttt (h : ∀ f ∈ aF false false false ++ bF true true true, @Ev.Fact.holds (envB a0 a1 b0 b1) f) : runB a0 a1 b0 b1 (aF false false false ++ bF true true true) h = true := by kernel_rfl
theorem runC_fff (h : ∀ f ∈ (aF false false false ++ bF false false false) ++ cF false false false, @Ev.Fact.holds (envB a0 a1 b0 b1) f) : runB a0 a1 b0 b1 ((aF false false false ++ bF false false false) ++ cF false false false) h = true := by kernel_rfl
theorem runC_fft (h : ∀ f ∈ (aF false false false ++ bF false false false) ++ cF false false true, @Ev.Fact.holds (envB a0 a1 b0 b1) f) : runB a0 a1 b0 b1 ((aF false false false ++ bF false false false) ++ cF false false true) h = true := by kernel_rfl
theorem runC_ftf (h : ∀ f ∈ (aF false false false ++ bF false false false) ++ cF false true false, @Ev.Fact.holds (envB a0 a1 b0 b1) f) : runB a0 a1 b0 b1 ((aF false false false ++ bF false false false) ++ cF false true false) h = true := by kernel_rfl
theorem runC_ftt (h : ∀ f ∈ (aF false false false ++ bF false false false) ++ cF false true true, @Ev.Fact.holds (envB a0 a1 b0 b1) f) : runB a0 a1 b0 b1 ((aF false false false ++ bF false false false) ++ cF false true true) h = true := by kernel_rfl
theorem runC_tff (h : ∀ f ∈ (aF false false false ++ bF false false false) ++ cF true false false, @Ev.Fact.holds (envB a0 a1 b0 b1) f) : runB a0 a1 b0 b1 ((aF false false false ++ bF false false false) ++ cF true false false) h = true := by kernel_rfl
theorem runC_tft (h : ∀ f ∈ (aF false false false ++ bF false false false) ++ cF true false true, @Ev.Fact.holds (envB a0 a1 b0 b1) f) : runB a0 a1 b0 b1 ((aF false false false ++ bF false false false) ++ cF true false true) h = true := by kernel_rfl
theorem runC_ttf (h : ∀ f ∈ (aF false false false ++ bF false false false) ++ cF true true false, @Ev.Fact.holds (envB a0 a1 b0 b1) f) : runB a0 a1 b0 b1 ((aF false false false ++ bF false false false) ++ cF true true false) h = true := by kernel_rfl
theorem runC_ttt (h : ∀ f ∈ (aF false false false ++ bF false false false) ++ cF true true true, @Ev.Fact.holds (envB a0 a1 b0 b1) f) : runB a0 a1 b0 b1 ((aF false false false ++ bF false false false) ++ cF true true true) h = true := by kernel_rfl
end
theorem subtypeBounds_walk (a0 a1 b0 b1 : Int) (w : World) (hL : Laid w) :
    Calls Tryz.prog 3 #[.agg #[.int .i64 a0, .int .i64 a1], .agg #[.int .i64 b0, .int .i64 b1]] w fun e w' => e = .returned (.bool true) ∧ Below w.heap.size w w' := by
  cases h1 : decide (a0 < -999999999999999) <;> cases h2 : decide (a1 < a0) <;> cases h3 : decide (999999999999999 < a1)
  · cases g1 : decide (b0 < -999999999999999) <;> cases g2 : decide (b1 < b0) <;> cases g3 : decide (999999999999999 < b1)
    · cases k1 : decide (a0 < b0) <;> cases k2 : decide (b1 < a1) <;> cases k3 : decide (a0 = a1)
      · exact of_runB _ _ _ _ (runC_fff a0 a1 b0 b1 (both (both (a_facts h1 h2 h3) (b_facts g1 g2 g3)) (c_facts k1 k2 k3))) w hL
      · exact of_runB _ _ _ _ (runC_fft a0 a1 b0 b1 (both (both (a_facts h1 h2 h3) (b_facts g1 g2 g3)) (c_facts k1 k2 k3))) w hL
      · exact of_runB _ _ _ _ (runC_ftf a0 a1 b0 b1 (both (both (a_facts h1 h2 h3) (b_facts g1 g2 g3)) (c_facts k1 k2 k3))) w hL
      · exact of_runB _ _ _ _ (runC_ftt a0 a1 b0 b1 (both (both (a_facts h1 h2 h3) (b_facts g1 g2 g3)) (c_facts k1 k2 k3))) w hL
      · exact of_runB _ _ _ _ (runC_tff a0 a1 b0 b1 (both (both (a_facts h1 h2 h3) (b_facts g1 g2 g3)) (c_facts k1 k2 k3))) w hL
      · exact of_runB _ _ _ _ (runC_tft a0 a1 b0 b1 (both (both (a_facts h1 h2 h3) (b_facts g1 g2 g3)) (c_facts k1 k2 k3))) w hL
      · exact of_runB _ _ _ _ (runC_ttf a0 a1 b0 b1 (both (both (a_facts h1 h2 h3) (b_facts g1 g2 g3)) (c_facts k1 k2 k3))) w hL
      · exact of_runB _ _ _ _ (runC_ttt a0 a1 b0 b1 (both (both (a_facts h1 h2 h3) (b_facts g1 g2 g3)) (c_facts k1 k2 k3))) w hL
    · exact of_runB _ _ _ _ (runQ_fft a0 a1 b0 b1 (both (a_facts h1 h2 h3) (b_facts g1 g2 g3))) w hL
    · exact of_runB _ _ _ _ (runQ_ftf a0 a1 b0 b1 (both (a_facts h1 h2 h3) (b_facts g1 g2 g3))) w hL
    · exact of_runB _ _ _ _ (runQ_ftt a0 a1 b0 b1 (both (a_facts h1 h2 h3) (b_facts g1 g2 g3))) w hL
    · exact of_runB _ _ _ _ (runQ_tff a0 a1 b0 b1 (both (a_facts h1 h2 h3) (b_facts g1 g2 g3))) w hL
    · exact of_runB _ _ _ _ (runQ_tft a0 a1 b0 b1 (both (a_facts h1 h2 h3) (b_facts g1 g2 g3))) w hL
    · exact of_runB _ _ _ _ (runQ_ttf a0 a1 b0 b1 (both (a_facts h1 h2 h3) (b_facts g1 g2 g3))) w hL
    · exact of_runB _ _ _ _ (runQ_ttt a0 a1 b0 b1 (both (a_facts h1 h2 h3) (b_facts g1 g2 g3))) w hL
  · exact of_runB _ _ _ _ (runA_fft a0 a1 b0 b1 (a_facts h1 h2 h3)) w hL
  · exact of_runB _ _ _ _ (runA_ftf a0 a1 b0 b1 (a_facts h1 h2 h3)) w hL
  · exact of_runB _ _ _ _ (runA_ftt a0 a1 b0 b1 (a_facts h1 h2 h3)) w hL
  · exact of_runB _ _ _ _ (runA_tff a0 a1 b0 b1 (a_facts h1 h2 h3)) w hL
  · exact of_runB _ _ _ _ (runA_tft a0 a1 b0 b1 (a_facts h1 h2 h3)) w hL
  · exact of_runB _ _ _ _ (runA_ttf a0 a1 b0 b1 (a_facts h1 h2 h3)) w hL
  · exact of_runB _ _ _ _ (runA_ttt a0 a1 b0 b1 (a_facts h1 h2 h3)) w hL
end Go.Proofs.YtnpanfbaafdhkacGreatDoor
