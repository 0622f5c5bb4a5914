/- The reference's Div, for all arguments. No condition. -/
import Derived.Test.YtgppimdakafniaaDoorDecRefDiv
namespace Go.Proofs.YtgppimdakafniaaDoor
open Go Go.RowKit Go.PlainAid

set_option maxHeartbeats 4000000 in
theorem refDiv_no (a sa b sb c : Int) (w : World) (h : ¬ (Both a sa b sb ∧ 0 ≤ c ∧ c ≤ 12 ∧ b ≠ 0)) :
    Calls Tryd.prog 28 #[(.agg #[.int .i64 (a), .int .i64 (sa)]), (.agg #[.int .i64 (b), .int .i64 (sb)]), .int .i64 c] w (DivPost a sa b sb c w) := by
  by_cases ha : okN a sa
  · by_cases hb : okN b sb
    · have HA := hide ha
      have HB := hide hb
      have hc : c < 0 ∨ (¬ c < 0 ∧ 12 < c) ∨ (¬ c < 0 ∧ ¬ 12 < c ∧ b = 0) := by
        by_cases h1 : c < 0
        · exact .inl h1
        · by_cases h2 : 12 < c
          · exact .inr (.inl ⟨h1, h2⟩)
          · refine .inr (.inr ⟨h1, h2, ?_⟩)
            by_cases h3 : b = 0
            · exact h3
            · exact absurd ⟨⟨ha, hb⟩, by omega, by omega, h3⟩ h
      clear h ha hb
      rcases hc with h1 | ⟨h1, h2⟩ | ⟨h1, h2, rfl⟩
      · have H : Hid (¬ (Both a sa b sb ∧ 0 ≤ c ∧ c ≤ 12)) := hide fun g => by have := g.2.1; omega
        have q1 : decide (c < 0) = true := by simp; omega
        go_enter Tryd.func28, Tryd.ntmps28
        go_wp2_with fail
        refine (is_yes _ _ _ HA.out).mono ?_
        rintro e w1 ⟨rfl, hb1⟩
        obtain ⟨hc1, hf1⟩ := bcell hb1
        have z1 : w.heap.size + 1 + 1 < w1.heap.size := by have := hb1.size; simp at this; omega
        go_wp2_with fail
        refine (is_yes _ _ _ HB.out).mono ?_
        rintro e w2 ⟨rfl, hb2⟩
        have hb0 := below_step hb1 hb2
        obtain ⟨hc2, hf2⟩ := bcell hb0
        have r0 : w2.cell? ⟨w.heap.size + 1 + 1, 0, none⟩ = some (.int .i64 0) := by rw [hc2 _ _ (by simp)]; simp [go_sem]
        have r1 : w2.cell? ⟨w.heap.size + 1 + 1, 1, none⟩ = some (.int .i64 0) := by rw [hc2 _ _ (by simp)]; simp [go_sem]
        have f0 : w2.frozen? ⟨w.heap.size + 1 + 1, 0, none⟩ = false := by rw [hf2 _ _ (by simp)]; simp [go_sem]
        have f1 : w2.frozen? ⟨w.heap.size + 1 + 1, 1, none⟩ = false := by rw [hf2 _ _ (by simp)]; simp [go_sem]
        clear hc1 hf1 hc2 hf2 hb1 hb2
        go_wp2_with fail
        exact bodyPost_ret (v := .tuple #[(.agg #[.int .i64 (0), .int .i64 (0)]), .int .i64 2]) (by simp [results, Tryd.results28, go_sem, r0, r1]) rfl ⟨0, 0, 2, rfl, .inr (.inr ⟨H.out, rfl, rfl, rfl⟩), by repeat (first | (refine below_set ?_ ?hsz _; case hsz => (first | omega | (simp; done) | (simp; omega) | (have hs0 := hb.size; simp at hs0 ⊢; omega) | (have hs1 := hb1.size; simp at hs1 ⊢; omega) | (have hs1 := hb1.size; have hs2 := hb2.size; simp at hs1 hs2 ⊢; omega))) | exact Below.refl _ _ | refine below_alloc ?_ _ | refine below_drew ?_ | refine below_drewn ?_ _ | refine below_step ?_ hb | refine below_step ?_ hb0 | refine below_step ?_ hb1 | refine below_step ?_ hb2 | refine below_step ?_ hb3 | refine below_step ?_ hb4 | refine below_step ?_ hb5 | refine below_step ?_ hb6 | refine below_step ?_ hb7)⟩
      · have H : Hid (¬ (Both a sa b sb ∧ 0 ≤ c ∧ c ≤ 12)) := hide fun g => by have := g.2.2; omega
        have q1 : decide (c < 0) = false := by simp; omega
        have q2 : decide (12 < c) = true := by simp; omega
        go_enter Tryd.func28, Tryd.ntmps28
        go_wp2_with fail
        refine (is_yes _ _ _ HA.out).mono ?_
        rintro e w1 ⟨rfl, hb1⟩
        obtain ⟨hc1, hf1⟩ := bcell hb1
        have z1 : w.heap.size + 1 + 1 < w1.heap.size := by have := hb1.size; simp at this; omega
        go_wp2_with fail
        refine (is_yes _ _ _ HB.out).mono ?_
        rintro e w2 ⟨rfl, hb2⟩
        have hb0 := below_step hb1 hb2
        obtain ⟨hc2, hf2⟩ := bcell hb0
        have r0 : w2.cell? ⟨w.heap.size + 1 + 1, 0, none⟩ = some (.int .i64 0) := by rw [hc2 _ _ (by simp)]; simp [go_sem]
        have r1 : w2.cell? ⟨w.heap.size + 1 + 1, 1, none⟩ = some (.int .i64 0) := by rw [hc2 _ _ (by simp)]; simp [go_sem]
        have f0 : w2.frozen? ⟨w.heap.size + 1 + 1, 0, none⟩ = false := by rw [hf2 _ _ (by simp)]; simp [go_sem]
        have f1 : w2.frozen? ⟨w.heap.size + 1 + 1, 1, none⟩ = false := by rw [hf2 _ _ (by simp)]; simp [go_sem]
        clear hc1 hf1 hc2 hf2 hb1 hb2
        go_wp2_with fail
        exact bodyPost_ret (v := .tuple #[(.agg #[.int .i64 (0), .int .i64 (0)]), .int .i64 2]) (by simp [results, Tryd.results28, go_sem, r0, r1]) rfl ⟨0, 0, 2, rfl, .inr (.inr ⟨H.out, rfl, rfl, rfl⟩), by repeat (first | (refine below_set ?_ ?hsz _; case hsz => (first | omega | (simp; done) | (simp; omega) | (have hs0 := hb.size; simp at hs0 ⊢; omega) | (have hs1 := hb1.size; simp at hs1 ⊢; omega) | (have hs1 := hb1.size; have hs2 := hb2.size; simp at hs1 hs2 ⊢; omega))) | exact Below.refl _ _ | refine below_alloc ?_ _ | refine below_drew ?_ | refine below_drewn ?_ _ | refine below_step ?_ hb | refine below_step ?_ hb0 | refine below_step ?_ hb1 | refine below_step ?_ hb2 | refine below_step ?_ hb3 | refine below_step ?_ hb4 | refine below_step ?_ hb5 | refine below_step ?_ hb6 | refine below_step ?_ hb7)⟩
      · have q1 : decide (c < 0) = false := by simp; omega
        have q2 : decide (12 < c) = false := by simp; omega
        go_enter Tryd.func28, Tryd.ntmps28
        go_wp2_with fail
        refine (is_yes _ _ _ HA.out).mono ?_
        rintro e w1 ⟨rfl, hb1⟩
        obtain ⟨hc1, hf1⟩ := bcell hb1
        have z1 : w.heap.size + 1 + 1 < w1.heap.size := by have := hb1.size; simp at this; omega
        go_wp2_with fail
        refine (is_yes _ _ _ HB.out).mono ?_
        rintro e w2 ⟨rfl, hb2⟩
        have hb0 := below_step hb1 hb2
        obtain ⟨hc2, hf2⟩ := bcell hb0
        have cb0 : w2.cell? ⟨w.heap.size + 1, 0, none⟩ = some (.int .i64 0) := by rw [hc2 _ _ (by simp)]; simp [go_sem]
        have r0 : w2.cell? ⟨w.heap.size + 1 + 1, 0, none⟩ = some (.int .i64 0) := by rw [hc2 _ _ (by simp)]; simp [go_sem]
        have r1 : w2.cell? ⟨w.heap.size + 1 + 1, 1, none⟩ = some (.int .i64 0) := by rw [hc2 _ _ (by simp)]; simp [go_sem]
        have f0 : w2.frozen? ⟨w.heap.size + 1 + 1, 0, none⟩ = false := by rw [hf2 _ _ (by simp)]; simp [go_sem]
        have f1 : w2.frozen? ⟨w.heap.size + 1 + 1, 1, none⟩ = false := by rw [hf2 _ _ (by simp)]; simp [go_sem]
        clear hc1 hf1 hc2 hf2 hb1 hb2
        go_wp2_with fail
        exact bodyPost_ret (v := .tuple #[(.agg #[.int .i64 (0), .int .i64 (0)]), .int .i64 15]) (by simp [results, Tryd.results28, go_sem, r0, r1]) rfl ⟨0, 0, 15, rfl, .inr (.inl ⟨⟨HA.out, HB.out⟩, by omega, by omega, rfl, rfl, rfl, rfl⟩), by repeat (first | (refine below_set ?_ ?hsz _; case hsz => (first | omega | (simp; done) | (simp; omega) | (have hs0 := hb.size; simp at hs0 ⊢; omega) | (have hs1 := hb1.size; simp at hs1 ⊢; omega) | (have hs1 := hb1.size; have hs2 := hb2.size; simp at hs1 hs2 ⊢; omega))) | exact Below.refl _ _ | refine below_alloc ?_ _ | refine below_drew ?_ | refine below_drewn ?_ _ | refine below_step ?_ hb | refine below_step ?_ hb0 | refine below_step ?_ hb1 | refine below_step ?_ hb2 | refine below_step ?_ hb3 | refine below_step ?_ hb4 | refine below_step ?_ hb5 | refine below_step ?_ hb6 | refine below_step ?_ hb7)⟩
    · have H : Hid (¬ (Both a sa b sb ∧ 0 ≤ c ∧ c ≤ 12)) := hide fun g => hb g.1.2
      have HA := hide ha
      have HB := hide hb
      clear h ha hb
      go_enter Tryd.func28, Tryd.ntmps28
      go_wp2_with fail
      refine (is_yes _ _ _ HA.out).mono ?_
      rintro e w1 ⟨rfl, hb1⟩
      obtain ⟨hc1, hf1⟩ := bcell hb1
      have z1 : w.heap.size + 1 + 1 < w1.heap.size := by have := hb1.size; simp at this; omega
      go_wp2_with fail
      refine (is_no _ _ _ HB.out).mono ?_
      rintro e w2 ⟨rfl, hb2⟩
      have hb0 := below_step hb1 hb2
      obtain ⟨hc2, hf2⟩ := bcell hb0
      have r0 : w2.cell? ⟨w.heap.size + 1 + 1, 0, none⟩ = some (.int .i64 0) := by rw [hc2 _ _ (by simp)]; simp [go_sem]
      have r1 : w2.cell? ⟨w.heap.size + 1 + 1, 1, none⟩ = some (.int .i64 0) := by rw [hc2 _ _ (by simp)]; simp [go_sem]
      have f0 : w2.frozen? ⟨w.heap.size + 1 + 1, 0, none⟩ = false := by rw [hf2 _ _ (by simp)]; simp [go_sem]
      have f1 : w2.frozen? ⟨w.heap.size + 1 + 1, 1, none⟩ = false := by rw [hf2 _ _ (by simp)]; simp [go_sem]
      clear hc1 hf1 hc2 hf2 hb1 hb2
      go_wp2_with fail
      exact bodyPost_ret (v := .tuple #[(.agg #[.int .i64 (0), .int .i64 (0)]), .int .i64 2]) (by simp [results, Tryd.results28, go_sem, r0, r1]) rfl ⟨0, 0, 2, rfl, .inr (.inr ⟨H.out, rfl, rfl, rfl⟩), by repeat (first | (refine below_set ?_ ?hsz _; case hsz => (first | omega | (simp; done) | (simp; omega) | (have hs0 := hb.size; simp at hs0 ⊢; omega) | (have hs1 := hb1.size; simp at hs1 ⊢; omega) | (have hs1 := hb1.size; have hs2 := hb2.size; simp at hs1 hs2 ⊢; omega))) | exact Below.refl _ _ | refine below_alloc ?_ _ | refine below_drew ?_ | refine below_drewn ?_ _ | refine below_step ?_ hb | refine below_step ?_ hb0 | refine below_step ?_ hb1 | refine below_step ?_ hb2 | refine below_step ?_ hb3 | refine below_step ?_ hb4 | refine below_step ?_ hb5 | refine below_step ?_ hb6 | refine below_step ?_ hb7)⟩
  · have H : Hid (¬ (Both a sa b sb ∧ 0 ≤ c ∧ c ≤ 12)) := hide fun g => ha g.1.1
    have HA := hide ha
    clear h ha
    go_enter Tryd.func28, Tryd.ntmps28
    go_wp2_with fail
    refine (is_no _ _ _ HA.out).mono ?_
    rintro e w1 ⟨rfl, hb1⟩
    obtain ⟨hc1, hf1⟩ := bcell hb1
    have r0 : w1.cell? ⟨w.heap.size + 1 + 1, 0, none⟩ = some (.int .i64 0) := by rw [hc1 _ _ (by simp)]; simp [go_sem]
    have r1 : w1.cell? ⟨w.heap.size + 1 + 1, 1, none⟩ = some (.int .i64 0) := by rw [hc1 _ _ (by simp)]; simp [go_sem]
    have f0 : w1.frozen? ⟨w.heap.size + 1 + 1, 0, none⟩ = false := by rw [hf1 _ _ (by simp)]; simp [go_sem]
    have f1 : w1.frozen? ⟨w.heap.size + 1 + 1, 1, none⟩ = false := by rw [hf1 _ _ (by simp)]; simp [go_sem]
    go_wp2_with fail
    exact bodyPost_ret (v := .tuple #[(.agg #[.int .i64 (0), .int .i64 (0)]), .int .i64 2]) (by simp [results, Tryd.results28, go_sem, r0, r1]) rfl ⟨0, 0, 2, rfl, .inr (.inr ⟨H.out, rfl, rfl, rfl⟩), by repeat (first | (refine below_set ?_ ?hsz _; case hsz => (first | omega | (simp; done) | (simp; omega) | (have hs0 := hb.size; simp at hs0 ⊢; omega) | (have hs1 := hb1.size; simp at hs1 ⊢; omega) | (have hs1 := hb1.size; have hs2 := hb2.size; simp at hs1 hs2 ⊢; omega))) | exact Below.refl _ _ | refine below_alloc ?_ _ | refine below_drew ?_ | refine below_drewn ?_ _ | refine below_step ?_ hb | refine below_step ?_ hb0 | refine below_step ?_ hb1 | refine below_step ?_ hb2 | refine below_step ?_ hb3 | refine below_step ?_ hb4 | refine below_step ?_ hb5 | refine below_step ?_ hb6 | refine below_step ?_ hb7)⟩

theorem refDiv_any (a sa b sb c : Int) (w : World) : Calls Tryd.prog 28 #[(.agg #[.int .i64 (a), .int .i64 (sa)]), (.agg #[.int .i64 (b), .int .i64 (sb)]), .int .i64 c] w (DivPost a sa b sb c w) := by
  by_cases h : Both a sa b sb ∧ 0 ≤ c ∧ c ≤ 12 ∧ b ≠ 0
  · exact refDiv_ok a sa b sb c w h.1 h.2.1 h.2.2.1 h.2.2.2
  · exact refDiv_no a sa b sb c w h
end Go.Proofs.YtgppimdakafniaaDoor
