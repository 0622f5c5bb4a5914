/- What Add, Sub and Compare return. Condition: the table of the powers of ten holds what the program's text lays. -/
import Derived.Test.YtcifakhpggoebabGreatDoorDecD
namespace Go.Proofs.YtcifakhpggoebabGreatDoor
open Go Go.RowKit Go.PlainAid


set_option maxHeartbeats 4000000 in
theorem add_ok (a sa b sb : Int) (w : World) (hP : Pows w) (h : Both a sa b sb) :
    Calls Tryz.prog 9 #[(.agg #[.int .i64 (a), .int .i64 (sa)]), (.agg #[.int .i64 (b), .int .i64 (sb)])] w (AddPost (1) a sa b sb w) := by
  have hlt := hP.lt
  have m1 : sa ≤ max sa sb := by omega
  have m2 : sb ≤ max sa sb := by omega
  have m3 : max sa sb ≤ 12 := by have := h.1.2.2.2; have := h.2.2.2.2; omega
  have hfit : Fits (sca a sa (max sa sb) + sca b sb (max sa sb)) := by
    have k1 := Fits.scaled ⟨h.1.1, h.1.2.1⟩ m1 (by have := h.1.2.2.1; omega)
    have k2 := Fits.scaled ⟨h.2.1, h.2.2.1⟩ m2 (by have := h.2.2.2.1; omega)
    unfold Fits; omega
  have PH := hide hP
  have H := hide h
  have HA := hide h.1
  have HB := hide h.2
  clear hP h
  go_enter Tryz.func9, Tryz.ntmps9
  go_wp2_with fail
  refine (both_ok _ _ _ _ _ H.out).mono ?_
  rintro e w1 ⟨rfl, hb1⟩
  obtain ⟨hc1, hf1⟩ := bcell hb1
  have y1 : w.heap.size + 1 < w1.heap.size := by have := hb1.size; simp at this; omega
  have z1 : w.heap.size + 1 + 1 < w1.heap.size := by have := hb1.size; simp at this; omega
  go_wp2_with fail
  have cb0w : w1.cell? ⟨w.heap.size + 1, 0, none⟩ = some (.int .i64 b) := by rw [hc1 _ _ (by simp)]; simp [go_sem]
  have cb1w : w1.cell? ⟨w.heap.size + 1, 1, none⟩ = some (.int .i64 sb) := by rw [hc1 _ _ (by simp)]; simp [go_sem]
  have r0w : w1.cell? ⟨w.heap.size + 1 + 1, 0, none⟩ = some (.int .i64 0) := by rw [hc1 _ _ (by simp)]; simp [go_sem]
  have r1w : w1.cell? ⟨w.heap.size + 1 + 1, 1, none⟩ = some (.int .i64 0) := by rw [hc1 _ _ (by simp)]; simp [go_sem]
  have f0w : w1.frozen? ⟨w.heap.size + 1 + 1, 0, none⟩ = false := by rw [hf1 _ _ (by simp)]; simp [go_sem]
  have f1w : w1.frozen? ⟨w.heap.size + 1 + 1, 1, none⟩ = false := by rw [hf1 _ _ (by simp)]; simp [go_sem]
  go_region_with (first | (go_at_call 24; (with_reducible refine (scaled_at a sa (max sa sb) _ ?_ HA.out m1 m3).mono ?_); (exact PH.out.below (by repeat (first | (refine below_set ?_ ?hsz _; case hsz => (first | omega | (simp; done) | (simp; omega) | (have hs0 := hb.size; simp at hs0 ⊢; omega) | (have hs1 := hb1.size; simp at hs1 ⊢; omega) | (have hs1 := hb1.size; have hs2 := hb2.size; simp at hs1 hs2 ⊢; omega))) | exact Below.refl _ _ | refine below_alloc ?_ _ | refine below_drew ?_ | refine below_drewn ?_ _ | refine below_step ?_ hb | refine below_step ?_ hb0 | refine below_step ?_ hb1 | refine below_step ?_ hb2 | refine below_step ?_ hb3 | refine below_step ?_ hb4 | refine below_step ?_ hb5 | refine below_step ?_ hb6 | refine below_step ?_ hb7))); rintro e w2 ⟨rfl, hb2⟩; obtain ⟨hc2, hf2⟩ := bcell hb2; have cb0 := (hb2.cell (p := ⟨w.heap.size + 1, 0, none⟩) y1).trans cb0w; have cb1 := (hb2.cell (p := ⟨w.heap.size + 1, 1, none⟩) y1).trans cb1w; have y2 : w.heap.size + 1 < w2.heap.size := (by have := hb2.size; (try simp at this); omega); have z2 : w.heap.size + 1 + 1 < w2.heap.size := (by have := hb2.size; (try simp at this); omega)) | (go_at_call 24; (with_reducible refine (scaled_at b sb (max sa sb) _ ?_ HB.out m2 m3).mono ?_); (exact PH.out.below (by repeat (first | (refine below_set ?_ ?hsz _; case hsz => (first | omega | (simp; done) | (simp; omega) | (have hs0 := hb.size; simp at hs0 ⊢; omega) | (have hs1 := hb1.size; simp at hs1 ⊢; omega) | (have hs1 := hb1.size; have hs2 := hb2.size; simp at hs1 hs2 ⊢; omega))) | exact Below.refl _ _ | refine below_alloc ?_ _ | refine below_drew ?_ | refine below_drewn ?_ _ | refine below_step ?_ hb | refine below_step ?_ hb0 | refine below_step ?_ hb1 | refine below_step ?_ hb2 | refine below_step ?_ hb3 | refine below_step ?_ hb4 | refine below_step ?_ hb5 | refine below_step ?_ hb6 | refine below_step ?_ hb7))); rintro e w3 ⟨rfl, hb3⟩; obtain ⟨hc3, hf3⟩ := bcell hb3; have y3 : w.heap.size + 1 < w3.heap.size := (by have := hb3.size; (try simp at this); omega); have z3 : w.heap.size + 1 + 1 < w3.heap.size := (by have := hb3.size; (try simp at this); omega)) | (go_at_call 25; (with_reducible refine (plus_any _ _ _).mono ?_); rintro e w4 ⟨rfl, hb4⟩; obtain ⟨hc4, hf4⟩ := bcell hb4; have y4 : w.heap.size + 1 < w4.heap.size := (by have := hb4.size; (try simp at this); omega); have z4 : w.heap.size + 1 + 1 < w4.heap.size := (by have := hb4.size; (try simp at this); omega)) | (go_at_call 26; (with_reducible refine (number_any _ _ _ hfit).mono ?_); rintro e w5 ⟨n, t, x, rfl, hN, hb5⟩; have HN := hide hN; clear hN; have hW : Below w1.heap.size w1 w5 := (by repeat (first | (refine below_set ?_ ?hsz _; case hsz => (first | omega | (simp; done) | (simp; omega) | (have hs0 := hb.size; simp at hs0 ⊢; omega) | (have hs1 := hb1.size; simp at hs1 ⊢; omega) | (have hs1 := hb1.size; have hs2 := hb2.size; simp at hs1 hs2 ⊢; omega))) | exact Below.refl _ _ | refine below_alloc ?_ _ | refine below_drew ?_ | refine below_drewn ?_ _ | refine below_step ?_ hb | refine below_step ?_ hb0 | refine below_step ?_ hb1 | refine below_step ?_ hb2 | refine below_step ?_ hb3 | refine below_step ?_ hb4 | refine below_step ?_ hb5 | refine below_step ?_ hb6 | refine below_step ?_ hb7)); have r0 := (hW.cell (p := ⟨w.heap.size + 1 + 1, 0, none⟩) z1).trans r0w; have r1 := (hW.cell (p := ⟨w.heap.size + 1 + 1, 1, none⟩) z1).trans r1w; have f0 := (hW.frozen (p := ⟨w.heap.size + 1 + 1, 0, none⟩) z1).trans f0w; have f1 := (hW.frozen (p := ⟨w.heap.size + 1 + 1, 1, none⟩) z1).trans f1w))
  all_goals (
    go_wp2_with fail
    exact bodyPost_ret (v := .tuple #[(.agg #[.int .i64 (n), .int .i64 (t)]), .int .i64 x]) (by simp [results, Tryz.results9, go_sem, r0, r1]) rfl ⟨n, t, x, rfl, .inl ⟨H.out, by rw [Int.one_mul]; exact HN.out⟩, by repeat (first | (refine below_set ?_ ?hsz _; case hsz => (first | omega | (simp; done) | (simp; omega) | (have hs0 := hb.size; simp at hs0 ⊢; omega) | (have hs1 := hb1.size; simp at hs1 ⊢; omega) | (have hs1 := hb1.size; have hs2 := hb2.size; simp at hs1 hs2 ⊢; omega))) | exact Below.refl _ _ | refine below_alloc ?_ _ | refine below_drew ?_ | refine below_drewn ?_ _ | refine below_step ?_ hb | refine below_step ?_ hb0 | refine below_step ?_ hb1 | refine below_step ?_ hb2 | refine below_step ?_ hb3 | refine below_step ?_ hb4 | refine below_step ?_ hb5 | refine below_step ?_ hb6 | refine below_step ?_ hb7)⟩)
set_option maxHeartbeats 1000000 in
theorem add_no (a sa b sb : Int) (w : World) (h : ¬ Both a sa b sb) :
    Calls Tryz.prog 9 #[(.agg #[.int .i64 (a), .int .i64 (sa)]), (.agg #[.int .i64 (b), .int .i64 (sb)])] w (AddPost (1) a sa b sb w) := by
  have H := hide h
  clear h
  go_enter Tryz.func9, Tryz.ntmps9
  go_wp2_with fail
  refine (both_no _ _ _ _ _ H.out).mono ?_
  rintro e w1 ⟨rfl, hb1⟩
  obtain ⟨hc1, hf1⟩ := bcell hb1
  have r0 : w1.cell? ⟨w.heap.size + 1 + 1, 0, none⟩ = some (.int .i64 0) := by rw [hc1 _ _ (by simp)]; simp [go_sem]
  have r1 : w1.cell? ⟨w.heap.size + 1 + 1, 1, none⟩ = some (.int .i64 0) := by rw [hc1 _ _ (by simp)]; simp [go_sem]
  have f0 : w1.frozen? ⟨w.heap.size + 1 + 1, 0, none⟩ = false := by rw [hf1 _ _ (by simp)]; simp [go_sem]
  have f1 : w1.frozen? ⟨w.heap.size + 1 + 1, 1, none⟩ = false := by rw [hf1 _ _ (by simp)]; simp [go_sem]
  go_wp2_with fail
  exact bodyPost_ret (v := .tuple #[(.agg #[.int .i64 (0), .int .i64 (0)]), .int .i64 2]) (by simp [results, Tryz.results9, go_sem, r0, r1]) rfl ⟨0, 0, 2, rfl, .inr ⟨H.out, rfl, rfl, rfl⟩, by repeat (first | (refine below_set ?_ ?hsz _; case hsz => (first | omega | (simp; done) | (simp; omega) | (have hs0 := hb.size; simp at hs0 ⊢; omega) | (have hs1 := hb1.size; simp at hs1 ⊢; omega) | (have hs1 := hb1.size; have hs2 := hb2.size; simp at hs1 hs2 ⊢; omega))) | exact Below.refl _ _ | refine below_alloc ?_ _ | refine below_drew ?_ | refine below_drewn ?_ _ | refine below_step ?_ hb | refine below_step ?_ hb0 | refine below_step ?_ hb1 | refine below_step ?_ hb2 | refine below_step ?_ hb3 | refine below_step ?_ hb4 | refine below_step ?_ hb5 | refine below_step ?_ hb6 | refine below_step ?_ hb7)⟩
theorem add_any (a sa b sb : Int) (w : World) (hP : Pows w) : Calls Tryz.prog 9 #[(.agg #[.int .i64 (a), .int .i64 (sa)]), (.agg #[.int .i64 (b), .int .i64 (sb)])] w (AddPost (1) a sa b sb w) := by
  by_cases h : Both a sa b sb
  · exact add_ok a sa b sb w hP h
  · exact add_no a sa b sb w h
end Go.Proofs.YtcifakhpggoebabGreatDoor
