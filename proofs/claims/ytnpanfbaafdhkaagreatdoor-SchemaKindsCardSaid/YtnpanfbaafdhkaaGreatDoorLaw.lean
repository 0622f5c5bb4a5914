/- The law SchemaKinds: its walk, by the reckoner. Condition: the listed tables. -/
import Derived.Test.YtnpanfbaafdhkaaGreatDoorSym
namespace Go.Proofs.YtnpanfbaafdhkaaGreatDoor
open Go Go.RowKit
abbrev envK (k : Int) (s : ByteArray) : Ev.Env := ⟨fun _ => k, fun _ => s⟩
def kindsL : List Int := [1, 2, 3, 4, 5, 6, 7, 8, 9, 10]
def namesL : List ByteArray := [⟨#[98, 111, 111, 108]⟩, ⟨#[105, 110, 116]⟩, ⟨#[100, 101, 99, 105, 109, 97, 108]⟩, ⟨#[116, 101, 120, 116]⟩, ⟨#[98, 121, 116, 101, 115]⟩, ⟨#[100, 97, 116, 101]⟩, ⟨#[116, 105, 109, 101]⟩, ⟨#[108, 105, 115, 116]⟩, ⟨#[114, 101, 99, 111, 114, 100]⟩, ⟨#[118, 97, 114, 105, 97, 110, 116]⟩]
def otherF : List Ev.Fact := namesL.map fun b => .seq (.v 0) (.lit b) false
theorem other_facts (k : Int) (s : ByteArray) (h : s ∉ namesL) : ∀ f ∈ otherF, @Ev.Fact.holds (envK k s) f := by
  intro f hf
  simp only [otherF, List.mem_map] at hf
  obtain ⟨b, hb, rfl⟩ := hf
  exact Ev.seq_ne fun e => h (by
    have e : s = b := e
    rw [e]; exact hb)
theorem lo_facts (k : Int) (s : ByteArray) (h : k ≤ 0) : ∀ f ∈ [Ev.Fact.hi (.v 0) 0], @Ev.Fact.holds (envK k s) f := by
  intro f hf
  rw [List.mem_singleton] at hf
  subst hf
  exact h
theorem hi_facts (k : Int) (s : ByteArray) (h : 11 ≤ k) : ∀ f ∈ [Ev.Fact.lo (.v 0) 11], @Ev.Fact.holds (envK k s) f := by
  intro f hf
  rw [List.mem_singleton] at hf
  subst hf
  exact h
theorem no_facts (k : Int) (s : ByteArray) : ∀ f ∈ ([] : List Ev.Fact), @Ev.Fact.holds (envK k s) f := fun _ h => (List.not_mem_nil h).elim
theorem both {k : Int} {s : ByteArray} {a b : List Ev.Fact} (ha : ∀ f ∈ a, @Ev.Fact.holds (envK k s) f) (hb : ∀ f ∈ b, @Ev.Fact.holds (envK k s) f) : ∀ f ∈ a ++ b, @Ev.Fact.holds (envK k s) f := fun f hf => (List.mem_append.1 hf).elim (ha f) (hb f)
/-- a run with these facts, this kind, this name -/
noncomputable def runK (k : Int) (s : ByteArray) (fs : List Ev.Fact) (h : ∀ f ∈ fs, @Ev.Fact.holds (envK k s) f) (a b : Ev.SV) : Bool := Ev.isTrue (@Ev.call (envK k s) (@cxk (envK k s) fs h) 1000000 3 [a, b] Ev.noSt)
theorem of_run {k : Int} {s : ByteArray} {fs : List Ev.Fact} {h : ∀ f ∈ fs, @Ev.Fact.holds (envK k s) f} {a b : Ev.SV} (hr : runK k s fs h a b = true) (ha : @Ev.conc (envK k s) (fun _ => none) a = some (.int .i64 k)) (hb : @Ev.conc (envK k s) (fun _ => none) b = some (.string s)) (w : World) (hL : Laid w) :
    Calls Tryz.prog 3 #[.int .i64 k, .string s] w fun e w' => e = .returned (.bool true) ∧ Below w.heap.size w w' :=
  @Ev.named_true (envK k s) (@cxk (envK k s) fs h) good 1000000 3 [a, b] [.int .i64 k, .string s] (@Ev.concs_cons (envK k s) _ _ _ _ _ ha (@Ev.concs_cons (envK k s) _ _ _ _ _ hb (@Ev.concs_nil (envK k s) _))) hr w hL.old
theorem run1_1 : (namesL.all fun s => runK 1 s [] (no_facts 1 s) (.lit (.int .i64 1)) (.lit (.string s))) = true := by kernel_rfl
theorem run1_2 : (namesL.all fun s => runK 2 s [] (no_facts 2 s) (.lit (.int .i64 2)) (.lit (.string s))) = true := by kernel_rfl
theorem run1_3 : (namesL.all fun s => runK 3 s [] (no_facts 3 s) (.lit (.int .i64 3)) (.lit (.string s))) = true := by kernel_rfl
theorem run1_4 : (namesL.all fun s => runK 4 s [] (no_facts 4 s) (.lit (.int .i64 4)) (.lit (.string s))) = true := by kernel_rfl
theorem run1_5 : (namesL.all fun s => runK 5 s [] (no_facts 5 s) (.lit (.int .i64 5)) (.lit (.string s))) = true := by kernel_rfl
theorem run1_6 : (namesL.all fun s => runK 6 s [] (no_facts 6 s) (.lit (.int .i64 6)) (.lit (.string s))) = true := by kernel_rfl
theorem run1_7 : (namesL.all fun s => runK 7 s [] (no_facts 7 s) (.lit (.int .i64 7)) (.lit (.string s))) = true := by kernel_rfl
theorem run1_8 : (namesL.all fun s => runK 8 s [] (no_facts 8 s) (.lit (.int .i64 8)) (.lit (.string s))) = true := by kernel_rfl
theorem run1_9 : (namesL.all fun s => runK 9 s [] (no_facts 9 s) (.lit (.int .i64 9)) (.lit (.string s))) = true := by kernel_rfl
theorem run1_10 : (namesL.all fun s => runK 10 s [] (no_facts 10 s) (.lit (.int .i64 10)) (.lit (.string s))) = true := by kernel_rfl
theorem run2 (s : ByteArray) (h : s ∉ namesL) : (kindsL.all fun k => runK k s otherF (other_facts k s h) (.lit (.int .i64 k)) (.sstr (.v 0))) = true := by kernel_rfl
theorem run3 (k : Int) (h : k ≤ 0) : (namesL.all fun s => runK k s [.hi (.v 0) 0] (lo_facts k s h) (.sint .i64 (.v 0)) (.lit (.string s))) = true := by kernel_rfl
theorem run4 (k : Int) (h : 11 ≤ k) : (namesL.all fun s => runK k s [.lo (.v 0) 11] (hi_facts k s h) (.sint .i64 (.v 0)) (.lit (.string s))) = true := by kernel_rfl
theorem run5 (k : Int) (s : ByteArray) (h : k ≤ 0) (hs : s ∉ namesL) : runK k s ([.hi (.v 0) 0] ++ otherF) (both (lo_facts k s h) (other_facts k s hs)) (.sint .i64 (.v 0)) (.sstr (.v 0)) = true := by kernel_rfl
theorem run6 (k : Int) (s : ByteArray) (h : 11 ≤ k) (hs : s ∉ namesL) : runK k s ([.lo (.v 0) 11] ++ otherF) (both (hi_facts k s h) (other_facts k s hs)) (.sint .i64 (.v 0)) (.sstr (.v 0)) = true := by kernel_rfl
theorem schemaKinds_walk (k : Int) (s : ByteArray) (w : World) (hL : Laid w) (_wk : (Lit.int .i64 k).wf = true) (_ws : s.size ≤ maxLen) :
    Calls Tryz.prog 3 #[.int .i64 k, .string s] w fun e w' => e = .returned (.bool true) ∧ Below w.heap.size w w' := by
  by_cases hs : s ∈ namesL
  · by_cases h1 : k ≤ 0
    · exact of_run (List.all_eq_true.1 (run3 k h1) s hs) rfl rfl w hL
    · by_cases h2 : 11 ≤ k
      · exact of_run (List.all_eq_true.1 (run4 k h2) s hs) rfl rfl w hL
      · have hk : k = 1 ∨ k = 2 ∨ k = 3 ∨ k = 4 ∨ k = 5 ∨ k = 6 ∨ k = 7 ∨ k = 8 ∨ k = 9 ∨ k = 10 := by omega
        rcases hk with rfl | rfl | rfl | rfl | rfl | rfl | rfl | rfl | rfl | rfl
        · exact of_run (List.all_eq_true.1 run1_1 s hs) rfl rfl w hL
        · exact of_run (List.all_eq_true.1 run1_2 s hs) rfl rfl w hL
        · exact of_run (List.all_eq_true.1 run1_3 s hs) rfl rfl w hL
        · exact of_run (List.all_eq_true.1 run1_4 s hs) rfl rfl w hL
        · exact of_run (List.all_eq_true.1 run1_5 s hs) rfl rfl w hL
        · exact of_run (List.all_eq_true.1 run1_6 s hs) rfl rfl w hL
        · exact of_run (List.all_eq_true.1 run1_7 s hs) rfl rfl w hL
        · exact of_run (List.all_eq_true.1 run1_8 s hs) rfl rfl w hL
        · exact of_run (List.all_eq_true.1 run1_9 s hs) rfl rfl w hL
        · exact of_run (List.all_eq_true.1 run1_10 s hs) rfl rfl w hL
  · by_cases h1 : k ≤ 0
    · exact of_run (run5 k s h1 hs) rfl rfl w hL
    · by_cases h2 : 11 ≤ k
      · exact of_run (run6 k s h2 hs) rfl rfl w hL
      · have hk : k ∈ kindsL := by
          have : k = 1 ∨ k = 2 ∨ k = 3 ∨ k = 4 ∨ k = 5 ∨ k = 6 ∨ k = 7 ∨ k = 8 ∨ k = 9 ∨ k = 10 := by omega
          simpa [kindsL] using this
        exact of_run (List.all_eq_true.1 (run2 s hs) k hk) rfl rfl w hL
end Go.Proofs.YtnpanfbaafdhkaaGreatDoor
