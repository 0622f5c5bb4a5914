/- DecimalOrders, walked. Condition: the tables hold what the program's text lays. -/
import Derived.Test.YtgppimdakafniaaDoorDecL
namespace Go.Proofs.YtgppimdakafniaaDoor
open Go Go.RowKit Go.PlainAid

/-- the tables -/
structure Laid (w : World) : Prop where
  tab : Lib.TabIs Tryd.prog w "internal/strconv.uint64pow10" .u64 Lib.pow10Tab
  pows : Pows w

/-- three numbers by value lie in three blocks -/
def Box3 (w X : World) (a sa b sb c sc : Int) : Prop :=
  X.cell? ⟨w.heap.size, 0, none⟩ = some (.int .i64 a) ∧ X.cell? ⟨w.heap.size, 1, none⟩ = some (.int .i64 sa) ∧ X.cell? ⟨w.heap.size + 1, 0, none⟩ = some (.int .i64 b) ∧ X.cell? ⟨w.heap.size + 1, 1, none⟩ = some (.int .i64 sb) ∧
    X.cell? ⟨w.heap.size + 1 + 1, 0, none⟩ = some (.int .i64 c) ∧ X.cell? ⟨w.heap.size + 1 + 1, 1, none⟩ = some (.int .i64 sc)
theorem box3 (w : World) (a sa b sb c sc : Int) (T : TypeId) {X : World} (h : Below (((w.alloc (.cells #[.int .i64 a, .int .i64 sa] T)).alloc (.cells #[.int .i64 b, .int .i64 sb] T)).alloc (.cells #[.int .i64 c, .int .i64 sc] T)).heap.size (((w.alloc (.cells #[.int .i64 a, .int .i64 sa] T)).alloc (.cells #[.int .i64 b, .int .i64 sb] T)).alloc (.cells #[.int .i64 c, .int .i64 sc] T)) X) : Box3 w X a sa b sb c sc := by
  have k : ∀ (g o : Nat), g < w.heap.size + 3 → X.cell? ⟨g, o, none⟩ = (((w.alloc (.cells #[.int .i64 a, .int .i64 sa] T)).alloc (.cells #[.int .i64 b, .int .i64 sb] T)).alloc (.cells #[.int .i64 c, .int .i64 sc] T)).cell? ⟨g, o, none⟩ := fun g o hg => h.cell (p := ⟨g, o, none⟩) (by simp; omega)
  refine ⟨?_, ?_, ?_, ?_, ?_, ?_⟩
  all_goals (rw [k _ _ (by omega)]; simp [go_sem])

set_option maxRecDepth 100000 in
set_option maxHeartbeats 8000000 in
theorem decimalOrders_walk (a sa b sb c sc : Int) (w : World) (hL : Laid w) :
    Calls Tryd.prog 5 #[(.agg #[.int .i64 (a), .int .i64 (sa)]), (.agg #[.int .i64 (b), .int .i64 (sb)]), (.agg #[.int .i64 (c), .int .i64 (sc)])] w fun e w' => e = .returned (.bool true) ∧ Below w.heap.size w w' := by
  have PH := hide hL.pows
  clear hL
  go_enter Tryd.func5, Tryd.ntmps5
  go_wp2_with fail
  refine (cmp_any a sa b sb _ ?_).mono ?_
  · exact PH.out.below (by repeat (first | (refine below_set ?_ ?hsz _; case hsz => (first | omega | (simp; done) | (simp; omega) | (have hs0 := hb.size; simp at hs0 ⊢; omega) | (have hs1 := hb1.size; simp at hs1 ⊢; omega) | (have hs1 := hb1.size; have hs2 := hb2.size; simp at hs1 hs2 ⊢; omega))) | exact Below.refl _ _ | refine below_alloc ?_ _ | refine below_drew ?_ | refine below_drewn ?_ _ | refine below_step ?_ hb | refine below_step ?_ hb0 | refine below_step ?_ hb1 | refine below_step ?_ hb2 | refine below_step ?_ hb3 | refine below_step ?_ hb4 | refine below_step ?_ hb5 | refine below_step ?_ hb6 | refine below_step ?_ hb7))
  rintro e w1 ⟨x, e1, rfl, hO1, hb1⟩
  obtain ⟨k1, k2, k3, k4, k5, k6⟩ := box3 w a sa b sb c sc _ hb1
  have O1 := hide hO1
  clear hO1
  go_wp2_with fail
  refine (cmp_any b sb c sc _ ?_).mono ?_
  · exact PH.out.below (by repeat (first | (refine below_set ?_ ?hsz _; case hsz => (first | omega | (simp; done) | (simp; omega) | (have hs0 := hb.size; simp at hs0 ⊢; omega) | (have hs1 := hb1.size; simp at hs1 ⊢; omega) | (have hs1 := hb1.size; have hs2 := hb2.size; simp at hs1 hs2 ⊢; omega))) | exact Below.refl _ _ | refine below_alloc ?_ _ | refine below_drew ?_ | refine below_drewn ?_ _ | refine below_step ?_ hb | refine below_step ?_ hb0 | refine below_step ?_ hb1 | refine below_step ?_ hb2 | refine below_step ?_ hb3 | refine below_step ?_ hb4 | refine below_step ?_ hb5 | refine below_step ?_ hb6 | refine below_step ?_ hb7))
  rintro e w2 ⟨y, e2, rfl, hO2, hb2⟩
  have hb2 := below_step hb1 hb2
  clear hb1 k1 k2 k3 k4 k5 k6
  obtain ⟨k1, k2, k3, k4, k5, k6⟩ := box3 w a sa b sb c sc _ hb2
  have O2 := hide hO2
  clear hO2
  go_wp2_with fail
  refine (cmp_any a sa c sc _ ?_).mono ?_
  · exact PH.out.below (by repeat (first | (refine below_set ?_ ?hsz _; case hsz => (first | omega | (simp; done) | (simp; omega) | (have hs0 := hb.size; simp at hs0 ⊢; omega) | (have hs1 := hb1.size; simp at hs1 ⊢; omega) | (have hs1 := hb1.size; have hs2 := hb2.size; simp at hs1 hs2 ⊢; omega))) | exact Below.refl _ _ | refine below_alloc ?_ _ | refine below_drew ?_ | refine below_drewn ?_ _ | refine below_step ?_ hb | refine below_step ?_ hb0 | refine below_step ?_ hb1 | refine below_step ?_ hb2 | refine below_step ?_ hb3 | refine below_step ?_ hb4 | refine below_step ?_ hb5 | refine below_step ?_ hb6 | refine below_step ?_ hb7))
  rintro e w3 ⟨z, e3, rfl, hO3, hb3⟩
  have hb3 := below_step hb2 hb3
  clear hb2 k1 k2 k3 k4 k5 k6
  obtain ⟨k1, k2, k3, k4, k5, k6⟩ := box3 w a sa b sb c sc _ hb3
  have O3 := hide hO3
  clear hO3
  go_wp2_with fail
  refine (cmp_any b sb a sa _ ?_).mono ?_
  · exact PH.out.below (by repeat (first | (refine below_set ?_ ?hsz _; case hsz => (first | omega | (simp; done) | (simp; omega) | (have hs0 := hb.size; simp at hs0 ⊢; omega) | (have hs1 := hb1.size; simp at hs1 ⊢; omega) | (have hs1 := hb1.size; have hs2 := hb2.size; simp at hs1 hs2 ⊢; omega))) | exact Below.refl _ _ | refine below_alloc ?_ _ | refine below_drew ?_ | refine below_drewn ?_ _ | refine below_step ?_ hb | refine below_step ?_ hb0 | refine below_step ?_ hb1 | refine below_step ?_ hb2 | refine below_step ?_ hb3 | refine below_step ?_ hb4 | refine below_step ?_ hb5 | refine below_step ?_ hb6 | refine below_step ?_ hb7))
  rintro e w4 ⟨u, e4, rfl, hO4, hb4⟩
  have hb4 := below_step hb3 hb4
  clear hb3 k1 k2 k3 k4 k5 k6
  obtain ⟨k1, k2, k3, k4, k5, k6⟩ := box3 w a sa b sb c sc _ hb4
  have O4 := hide hO4
  clear hO4
  go_wp2_with fail
  refine (cmp_any a sa a sa _ ?_).mono ?_
  · exact PH.out.below (by repeat (first | (refine below_set ?_ ?hsz _; case hsz => (first | omega | (simp; done) | (simp; omega) | (have hs0 := hb.size; simp at hs0 ⊢; omega) | (have hs1 := hb1.size; simp at hs1 ⊢; omega) | (have hs1 := hb1.size; have hs2 := hb2.size; simp at hs1 hs2 ⊢; omega))) | exact Below.refl _ _ | refine below_alloc ?_ _ | refine below_drew ?_ | refine below_drewn ?_ _ | refine below_step ?_ hb | refine below_step ?_ hb0 | refine below_step ?_ hb1 | refine below_step ?_ hb2 | refine below_step ?_ hb3 | refine below_step ?_ hb4 | refine below_step ?_ hb5 | refine below_step ?_ hb6 | refine below_step ?_ hb7))
  rintro e w5 ⟨s, e5, rfl, hO5, hb5⟩
  have hb5 := below_step hb4 hb5
  clear hb4 k1 k2 k3 k4 k5 k6
  have O5 := hide hO5
  clear hO5
  go_wp2_with fail
  refine (known_any _ ?_).mono ?_
  · exact PH.out.below (by repeat (first | (refine below_set ?_ ?hsz _; case hsz => (first | omega | (simp; done) | (simp; omega) | (have hs0 := hb.size; simp at hs0 ⊢; omega) | (have hs1 := hb1.size; simp at hs1 ⊢; omega) | (have hs1 := hb1.size; have hs2 := hb2.size; simp at hs1 hs2 ⊢; omega))) | exact Below.refl _ _ | refine below_alloc ?_ _ | refine below_drew ?_ | refine below_drewn ?_ _ | refine below_step ?_ hb | refine below_step ?_ hb0 | refine below_step ?_ hb1 | refine below_step ?_ hb2 | refine below_step ?_ hb3 | refine below_step ?_ hb4 | refine below_step ?_ hb5 | refine below_step ?_ hb6 | refine below_step ?_ hb7))
  rintro e w6 ⟨rfl, hb6⟩
  have hB : Below w.heap.size w w6 := by repeat (first | (refine below_set ?_ ?hsz _; case hsz => (first | omega | (simp; done) | (simp; omega) | (have hs0 := hb.size; simp at hs0 ⊢; omega) | (have hs1 := hb1.size; simp at hs1 ⊢; omega) | (have hs1 := hb1.size; have hs2 := hb2.size; simp at hs1 hs2 ⊢; omega))) | exact Below.refl _ _ | refine below_alloc ?_ _ | refine below_drew ?_ | refine below_drewn ?_ _ | refine below_step ?_ hb | refine below_step ?_ hb0 | refine below_step ?_ hb1 | refine below_step ?_ hb2 | refine below_step ?_ hb3 | refine below_step ?_ hb4 | refine below_step ?_ hb5 | refine below_step ?_ hb6 | refine below_step ?_ hb7)
  clear hb5 hb6
  obtain ⟨rx, rx'⟩ := O1.out.range
  obtain ⟨ry, ry'⟩ := O2.out.range
  obtain ⟨rz, rz'⟩ := O3.out.range
  have cx : x = -1 ∨ x = 0 ∨ x = 1 := by omega
  have cy : y = -1 ∨ y = 0 ∨ y = 1 := by omega
  have cz : z = -1 ∨ z = 0 ∨ z = 1 := by omega
  rcases order_out O1.out O2.out O3.out O4.out O5.out with ⟨q1, q2, q3, q4, q5, q6, q7, h1, h2, h3⟩ | ⟨h1, h2⟩
  · clear O1 O2 O3 O4 O5 rx rx' ry ry' rz rz'
    rw [q1, q2, q3, q4, q5, q6, q7]
    clear q1 q2 q3 q4 q5 q6 q7 e1 e2 e3 e4 u e5 s
    rcases cx with rfl | rfl | rfl
    all_goals rcases cy with rfl | rfl | rfl
    all_goals rcases cz with rfl | rfl | rfl
    all_goals first
      | (exfalso; omega)
      | (clear h1 h2 h3
         go_wp2_with fail
         go_ret
         exact ⟨rfl, hB⟩)
  · clear O1 O2 O3 O4 O5 rx rx' ry ry' rz rz'
    rcases h2 with ⟨q1, q2⟩ | ⟨q1, q2⟩
    · rw [q1, q2]
      clear h1 q1 q2 cx cy cz
      go_wp2_with fail
      all_goals (go_ret; exact ⟨rfl, hB⟩)
    · rw [q1, q2]
      clear h1 q1 q2 cx cy cz
      go_wp2_with fail
      all_goals (go_ret; exact ⟨rfl, hB⟩)
end Go.Proofs.YtgppimdakafniaaDoor
