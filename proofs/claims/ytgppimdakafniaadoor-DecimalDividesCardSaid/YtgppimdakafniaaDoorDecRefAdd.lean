/- The reference's Add. Condition: none. -/
import Derived.Test.YtgppimdakafniaaDoorDecPlusF
namespace Go.Proofs.YtgppimdakafniaaDoor
open Go Go.RowKit Go.PlainAid

set_option maxHeartbeats 8000000 in
theorem refAdd_ok (a sa b sb : Int) (w : World) (h : Both a sa b sb) :
    Calls Tryd.prog 24 #[(.agg #[.int .i64 (a), .int .i64 (sa)]), (.agg #[.int .i64 (b), .int .i64 (sb)])] w (AddPost 1 a sa b sb w) := by
  have m1 : sa ≤ max sa sb := by omega
  have m2 : sb ≤ max sa sb := by omega
  have m3 : max sa sb ≤ 12 := by have := h.1.2.2.2; have := h.2.2.2.2; omega
  have H := hide h
  have HA := hide h.1
  have HB := hide h.2
  have DA := hide (digs_len_sca h.1 m1 m3)
  have DB := hide (digs_len_sca h.2 m2 m3)
  clear h
  go_enter Tryd.func24, Tryd.ntmps24
  go_wp2_with fail
  refine (is_yes _ _ _ HA.out).mono ?_
  rintro e w1 ⟨rfl, hb1⟩
  obtain ⟨hc1, hf1⟩ := bcell hb1
  have y1 : w.heap.size + 1 < w1.heap.size := by have := hb1.size; simp at this; omega
  have z1 : w.heap.size + 1 + 1 < w1.heap.size := by have := hb1.size; simp at this; omega
  go_wp2_with fail
  refine (is_yes _ _ _ HB.out).mono ?_
  rintro e w2 ⟨rfl, hb2⟩
  have hb0 := below_step hb1 hb2
  obtain ⟨hc2, hf2⟩ := bcell hb0
  have hB2 : Below w.heap.size w w2 := by repeat (first | (refine below_set ?_ ?hsz _; case hsz => (first | omega | (simp; done) | (simp; omega) | (have hs0 := hb.size; simp at hs0 ⊢; omega) | (have hs1 := hb1.size; simp at hs1 ⊢; omega) | (have hs1 := hb1.size; have hs2 := hb2.size; simp at hs1 hs2 ⊢; omega))) | exact Below.refl _ _ | refine below_alloc ?_ _ | refine below_drew ?_ | refine below_drewn ?_ _ | refine below_step ?_ hb | refine below_step ?_ hb0 | refine below_step ?_ hb1 | refine below_step ?_ hb2 | refine below_step ?_ hb3 | refine below_step ?_ hb4 | refine below_step ?_ hb5 | refine below_step ?_ hb6 | refine below_step ?_ hb7)
  have y2 : w.heap.size + 1 < w2.heap.size := by have := hb0.size; simp at this; omega
  have z2 : w.heap.size + 1 + 1 < w2.heap.size := by have := hb0.size; simp at this; omega
  clear hc1 hf1 hb1 hb2 y1 z1
  have cb0w : w2.cell? ⟨w.heap.size + 1, 0, none⟩ = some (.int .i64 b) := by rw [hc2 _ _ (by simp)]; simp [go_sem]
  have cb1w : w2.cell? ⟨w.heap.size + 1, 1, none⟩ = some (.int .i64 sb) := by rw [hc2 _ _ (by simp)]; simp [go_sem]
  have r0w : w2.cell? ⟨w.heap.size + 1 + 1, 0, none⟩ = some (.int .i64 0) := by rw [hc2 _ _ (by simp)]; simp [go_sem]
  have r1w : w2.cell? ⟨w.heap.size + 1 + 1, 1, none⟩ = some (.int .i64 0) := by rw [hc2 _ _ (by simp)]; simp [go_sem]
  have f0w : w2.frozen? ⟨w.heap.size + 1 + 1, 0, none⟩ = false := by rw [hf2 _ _ (by simp)]; simp [go_sem]
  have f1w : w2.frozen? ⟨w.heap.size + 1 + 1, 1, none⟩ = false := by rw [hf2 _ _ (by simp)]; simp [go_sem]
  clear hb0
  go_wp2_with fail
  go_region_with (first | (go_at_call 31; (with_reducible refine (at_any a sa (max sa sb) _ HA.out m1 m3).mono ?_); rintro e w3 ⟨A, ca, rfl, la, lca, ra, fa, hb3⟩; have RA := hide ra; have LA := hide la; clear ra fa la; have cb0 := (hb3.cell (p := ⟨w.heap.size + 1, 0, none⟩) y2).trans cb0w; have cb1 := (hb3.cell (p := ⟨w.heap.size + 1, 1, none⟩) y2).trans cb1w; have y3 : w.heap.size + 1 < w3.heap.size := (by have := hb3.size; (try simp at this); omega); have z3 : w.heap.size + 1 + 1 < w3.heap.size := (by have := hb3.size; (try simp at this); omega)) | (go_at_call 31; (with_reducible refine (at_any b sb (max sa sb) _ HB.out m2 m3).mono ?_); rintro e w4 ⟨B, cb, rfl, lb, lcb, rb, fb, hb4⟩; have RB := hide rb; have LB := hide lb; clear rb fb lb; have y4 : w.heap.size + 1 < w4.heap.size := (by have := hb4.size; (try simp at this); omega); have z4 : w.heap.size + 1 + 1 < w4.heap.size := (by have := hb4.size; (try simp at this); omega)) | (go_at_call 30; (with_reducible refine (refPlus_any _ _ A B ca cb _ ?_ ?_ ?_ ?_ ?_ ?_ ?_ ?_).mono ?_); (exact RA.out.below (by repeat (first | (refine below_set ?_ ?hsz _; case hsz => (first | omega | (simp; done) | (simp; omega) | (have hs0 := hb.size; simp at hs0 ⊢; omega) | (have hs1 := hb1.size; simp at hs1 ⊢; omega) | (have hs1 := hb1.size; have hs2 := hb2.size; simp at hs1 hs2 ⊢; omega))) | exact Below.refl _ _ | refine below_alloc ?_ _ | refine below_drew ?_ | refine below_drewn ?_ _ | refine below_step ?_ hb | refine below_step ?_ hb0 | refine below_step ?_ hb1 | refine below_step ?_ hb2 | refine below_step ?_ hb3 | refine below_step ?_ hb4 | refine below_step ?_ hb5 | refine below_step ?_ hb6 | refine below_step ?_ hb7))); (exact RB.out.below (by repeat (first | (refine below_set ?_ ?hsz _; case hsz => (first | omega | (simp; done) | (simp; omega) | (have hs0 := hb.size; simp at hs0 ⊢; omega) | (have hs1 := hb1.size; simp at hs1 ⊢; omega) | (have hs1 := hb1.size; have hs2 := hb2.size; simp at hs1 hs2 ⊢; omega))) | exact Below.refl _ _ | refine below_alloc ?_ _ | refine below_drew ?_ | refine below_drewn ?_ _ | refine below_step ?_ hb | refine below_step ?_ hb0 | refine below_step ?_ hb1 | refine below_step ?_ hb2 | refine below_step ?_ hb3 | refine below_step ?_ hb4 | refine below_step ?_ hb5 | refine below_step ?_ hb6 | refine below_step ?_ hb7))); (have := DA.out; omega); (have := DB.out; omega); (exact LA.out); (exact LB.out); (exact lca); (exact lcb); rintro e w5 ⟨P, cp, rfl, lp, lcp, rp, hb5⟩; have RP := hide rp; clear rp lp; have y5 : w.heap.size + 1 < w5.heap.size := (by have := hb5.size; (try simp at this); omega); have z5 : w.heap.size + 1 + 1 < w5.heap.size := (by have := hb5.size; (try simp at this); omega)) | (go_at_call 48; (with_reducible refine (fit_any _ _ P cp _ ?_).mono ?_); (exact RP.out.below (by repeat (first | (refine below_set ?_ ?hsz _; case hsz => (first | omega | (simp; done) | (simp; omega) | (have hs0 := hb.size; simp at hs0 ⊢; omega) | (have hs1 := hb1.size; simp at hs1 ⊢; omega) | (have hs1 := hb1.size; have hs2 := hb2.size; simp at hs1 hs2 ⊢; omega))) | exact Below.refl _ _ | refine below_alloc ?_ _ | refine below_drew ?_ | refine below_drewn ?_ _ | refine below_step ?_ hb | refine below_step ?_ hb0 | refine below_step ?_ hb1 | refine below_step ?_ hb2 | refine below_step ?_ hb3 | refine below_step ?_ hb4 | refine below_step ?_ hb5 | refine below_step ?_ hb6 | refine below_step ?_ hb7))); rintro e w6 ⟨n, t, x, rfl, hN, hb6⟩; have HN := hide hN; clear hN; have hW : Below w2.heap.size w2 w6 := (by repeat (first | (refine below_set ?_ ?hsz _; case hsz => (first | omega | (simp; done) | (simp; omega) | (have hs0 := hb.size; simp at hs0 ⊢; omega) | (have hs1 := hb1.size; simp at hs1 ⊢; omega) | (have hs1 := hb1.size; have hs2 := hb2.size; simp at hs1 hs2 ⊢; omega))) | exact Below.refl _ _ | refine below_alloc ?_ _ | refine below_drew ?_ | refine below_drewn ?_ _ | refine below_step ?_ hb | refine below_step ?_ hb0 | refine below_step ?_ hb1 | refine below_step ?_ hb2 | refine below_step ?_ hb3 | refine below_step ?_ hb4 | refine below_step ?_ hb5 | refine below_step ?_ hb6 | refine below_step ?_ hb7)); have r0 := (hW.cell (p := ⟨w.heap.size + 1 + 1, 0, none⟩) z2).trans r0w; have r1 := (hW.cell (p := ⟨w.heap.size + 1 + 1, 1, none⟩) z2).trans r1w; have f0 := (hW.frozen (p := ⟨w.heap.size + 1 + 1, 0, none⟩) z2).trans f0w; have f1 := (hW.frozen (p := ⟨w.heap.size + 1 + 1, 1, none⟩) z2).trans f1w))
  all_goals (
    go_wp2_with fail
    exact bodyPost_ret (v := .tuple #[(.agg #[.int .i64 (n), .int .i64 (t)]), .int .i64 x]) (by simp [results, Tryd.results24, go_sem, r0, r1]) rfl ⟨n, t, x, rfl, .inl ⟨H.out, by rcases HN.out with ⟨_, h⟩ | ⟨h, _⟩; (rw [Int.one_mul]; exact h); omega⟩, (below_step hB2 hW).setCell (by simp; omega) _ |>.setCell (by simp; omega) _⟩)
set_option maxHeartbeats 2000000 in
theorem refAdd_no (a sa b sb : Int) (w : World) (h : ¬ Both a sa b sb) :
    Calls Tryd.prog 24 #[(.agg #[.int .i64 (a), .int .i64 (sa)]), (.agg #[.int .i64 (b), .int .i64 (sb)])] w (AddPost 1 a sa b sb w) := by
  have H := hide h
  by_cases ha : okN a sa
  · have hb : ¬ okN b sb := fun g => h ⟨ha, g⟩
    have HA := hide ha
    have HB := hide hb
    clear h ha hb
    go_enter Tryd.func24, Tryd.ntmps24
    go_wp2_with fail
    refine (is_yes _ _ _ HA.out).mono ?_
    rintro e w1 ⟨rfl, hb1⟩
    obtain ⟨hc1, hf1⟩ := bcell hb1
    have z1 : w.heap.size + 1 + 1 < w1.heap.size := by have := hb1.size; simp at this; omega
    go_wp2_with fail
    refine (is_no _ _ _ HB.out).mono ?_
    rintro e w2 ⟨rfl, hb2⟩
    have hb0 := below_step hb1 hb2
    obtain ⟨hc2, hf2⟩ := bcell hb0
    have r0 : w2.cell? ⟨w.heap.size + 1 + 1, 0, none⟩ = some (.int .i64 0) := by rw [hc2 _ _ (by simp)]; simp [go_sem]
    have r1 : w2.cell? ⟨w.heap.size + 1 + 1, 1, none⟩ = some (.int .i64 0) := by rw [hc2 _ _ (by simp)]; simp [go_sem]
    have f0 : w2.frozen? ⟨w.heap.size + 1 + 1, 0, none⟩ = false := by rw [hf2 _ _ (by simp)]; simp [go_sem]
    have f1 : w2.frozen? ⟨w.heap.size + 1 + 1, 1, none⟩ = false := by rw [hf2 _ _ (by simp)]; simp [go_sem]
    clear hc1 hf1 hc2 hf2 hb1 hb2
    go_wp2_with fail
    exact bodyPost_ret (v := .tuple #[(.agg #[.int .i64 (0), .int .i64 (0)]), .int .i64 2]) (by simp [results, Tryd.results24, go_sem, r0, r1]) rfl ⟨0, 0, 2, rfl, .inr ⟨H.out, rfl, rfl, rfl⟩, by repeat (first | (refine below_set ?_ ?hsz _; case hsz => (first | omega | (simp; done) | (simp; omega) | (have hs0 := hb.size; simp at hs0 ⊢; omega) | (have hs1 := hb1.size; simp at hs1 ⊢; omega) | (have hs1 := hb1.size; have hs2 := hb2.size; simp at hs1 hs2 ⊢; omega))) | exact Below.refl _ _ | refine below_alloc ?_ _ | refine below_drew ?_ | refine below_drewn ?_ _ | refine below_step ?_ hb | refine below_step ?_ hb0 | refine below_step ?_ hb1 | refine below_step ?_ hb2 | refine below_step ?_ hb3 | refine below_step ?_ hb4 | refine below_step ?_ hb5 | refine below_step ?_ hb6 | refine below_step ?_ hb7)⟩
  · have HA := hide ha
    clear h ha
    go_enter Tryd.func24, Tryd.ntmps24
    go_wp2_with fail
    refine (is_no _ _ _ HA.out).mono ?_
    rintro e w1 ⟨rfl, hb1⟩
    obtain ⟨hc1, hf1⟩ := bcell hb1
    have r0 : w1.cell? ⟨w.heap.size + 1 + 1, 0, none⟩ = some (.int .i64 0) := by rw [hc1 _ _ (by simp)]; simp [go_sem]
    have r1 : w1.cell? ⟨w.heap.size + 1 + 1, 1, none⟩ = some (.int .i64 0) := by rw [hc1 _ _ (by simp)]; simp [go_sem]
    have f0 : w1.frozen? ⟨w.heap.size + 1 + 1, 0, none⟩ = false := by rw [hf1 _ _ (by simp)]; simp [go_sem]
    have f1 : w1.frozen? ⟨w.heap.size + 1 + 1, 1, none⟩ = false := by rw [hf1 _ _ (by simp)]; simp [go_sem]
    go_wp2_with fail
    exact bodyPost_ret (v := .tuple #[(.agg #[.int .i64 (0), .int .i64 (0)]), .int .i64 2]) (by simp [results, Tryd.results24, go_sem, r0, r1]) rfl ⟨0, 0, 2, rfl, .inr ⟨H.out, rfl, rfl, rfl⟩, by repeat (first | (refine below_set ?_ ?hsz _; case hsz => (first | omega | (simp; done) | (simp; omega) | (have hs0 := hb.size; simp at hs0 ⊢; omega) | (have hs1 := hb1.size; simp at hs1 ⊢; omega) | (have hs1 := hb1.size; have hs2 := hb2.size; simp at hs1 hs2 ⊢; omega))) | exact Below.refl _ _ | refine below_alloc ?_ _ | refine below_drew ?_ | refine below_drewn ?_ _ | refine below_step ?_ hb | refine below_step ?_ hb0 | refine below_step ?_ hb1 | refine below_step ?_ hb2 | refine below_step ?_ hb3 | refine below_step ?_ hb4 | refine below_step ?_ hb5 | refine below_step ?_ hb6 | refine below_step ?_ hb7)⟩
theorem refAdd_any (a sa b sb : Int) (w : World) : Calls Tryd.prog 24 #[(.agg #[.int .i64 (a), .int .i64 (sa)]), (.agg #[.int .i64 (b), .int .i64 (sb)])] w (AddPost 1 a sa b sb w) := by
  by_cases h : Both a sa b sb
  · exact refAdd_ok a sa b sb w h
  · exact refAdd_no a sa b sb w h
end Go.Proofs.YtgppimdakafniaaDoor
