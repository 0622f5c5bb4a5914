/- The example of the chapter (known), and the laws DecimalOrders and DecimalRing, walked. Condition: the tables hold what the program's text lays. -/
import Derived.Test.YtgppimdakafniaaDoorDecK
import Derived.Test.YtgppimdakafniaaDoorDecF
import Derived.Test.YtgppimdakafniaaDoorDecG
namespace Go.Proofs.YtgppimdakafniaaDoor
open Go Go.RowKit Go.PlainAid

theorem add_175 {n t x : Int} (h : AddOut 1 125 2 5 1 n t x) : n = 175 ∧ t = 2 ∧ x = 0 := by
  have e : sca 125 2 (max 2 1) + 1 * sca 5 1 (max 2 1) = 175 := by decide
  rcases h with ⟨_, h⟩ | ⟨h, _⟩
  · rw [e] at h
    rcases h with ⟨_, rfl, rfl, rfl⟩ | ⟨h, _⟩
    · exact ⟨rfl, by decide, rfl⟩
    · exact absurd (by unfold Small; decide) h
  · exact absurd ⟨by unfold okN; decide, by unfold okN; decide⟩ h
theorem add_known (w : World) (hP : Pows w) : Calls Tryd.prog 23 #[(.agg #[.int .i64 (125), .int .i64 (2)]), (.agg #[.int .i64 (5), .int .i64 (1)])] w fun e w' => e = .returned (.tuple #[(.agg #[.int .i64 (175), .int .i64 (2)]), .int .i64 0]) ∧ Below w.heap.size w w' :=
  (add_any 125 2 5 1 w hP).mono fun _ _ ⟨n, t, x, he, ho, hb⟩ => by
    obtain ⟨rfl, rfl, rfl⟩ := add_175 ho
    exact ⟨he, hb⟩

set_option maxHeartbeats 4000000 in
theorem known_any (w : World) (hP : Pows w) : Calls Tryd.prog 17 #[] w fun e w' => e = .returned (.bool true) ∧ Below w.heap.size w w' := by
  have PH := hide hP
  clear hP
  go_enter Tryd.func17, Tryd.ntmps17
  go_wp2_with fail
  refine (add_known _ ?_).mono ?_
  · exact PH.out.below (by repeat (first | (refine below_set ?_ ?hsz _; case hsz => (first | omega | (simp; done) | (simp; omega) | (have hs0 := hb.size; simp at hs0 ⊢; omega) | (have hs1 := hb1.size; simp at hs1 ⊢; omega) | (have hs1 := hb1.size; have hs2 := hb2.size; simp at hs1 hs2 ⊢; omega))) | exact Below.refl _ _ | refine below_alloc ?_ _ | refine below_drew ?_ | refine below_drewn ?_ _ | refine below_step ?_ hb | refine below_step ?_ hb0 | refine below_step ?_ hb1 | refine below_step ?_ hb2 | refine below_step ?_ hb3 | refine below_step ?_ hb4 | refine below_step ?_ hb5 | refine below_step ?_ hb6 | refine below_step ?_ hb7))
  rintro e w1 ⟨rfl, hb1⟩
  go_wp2_with fail
  refine (div_known _ ?_).mono ?_
  · exact PH.out.below (by repeat (first | (refine below_set ?_ ?hsz _; case hsz => (first | omega | (simp; done) | (simp; omega) | (have hs0 := hb.size; simp at hs0 ⊢; omega) | (have hs1 := hb1.size; simp at hs1 ⊢; omega) | (have hs1 := hb1.size; have hs2 := hb2.size; simp at hs1 hs2 ⊢; omega))) | exact Below.refl _ _ | refine below_alloc ?_ _ | refine below_drew ?_ | refine below_drewn ?_ _ | refine below_step ?_ hb | refine below_step ?_ hb0 | refine below_step ?_ hb1 | refine below_step ?_ hb2 | refine below_step ?_ hb3 | refine below_step ?_ hb4 | refine below_step ?_ hb5 | refine below_step ?_ hb6 | refine below_step ?_ hb7))
  rintro e w2 ⟨rfl, hb2⟩
  go_wp2_with fail
  refine (text_known _).mono ?_
  rintro e w3 ⟨rfl, hb3⟩
  have l1 : w1.heap.size < w2.heap.size := by have := hb2.size; simp at this; omega
  have l2 : w2.heap.size < w3.heap.size := by have := hb3.size; simp at this; omega
  have u0 : w3.cell? ⟨w2.heap.size, 0, none⟩ = some (.int .i64 33) := (hb3.cell (p := ⟨w2.heap.size, 0, none⟩) (by simp)).trans (one0 _ _ _ _)
  have u1 : w3.cell? ⟨w2.heap.size, 1, none⟩ = some (.int .i64 2) := (hb3.cell (p := ⟨w2.heap.size, 1, none⟩) (by simp)).trans (one1 _ _ _ _)
  have v0 : w3.cell? ⟨w1.heap.size, 0, none⟩ = some (.int .i64 175) := by
    rw [hb3.cell (p := ⟨w1.heap.size, 0, none⟩) (by simp; omega), World.cell?_alloc_lt _ _ _ l1]
    exact (hb2.cell (p := ⟨w1.heap.size, 0, none⟩) (by simp)).trans (one0 _ _ _ _)
  have v1 : w3.cell? ⟨w1.heap.size, 1, none⟩ = some (.int .i64 2) := by
    rw [hb3.cell (p := ⟨w1.heap.size, 1, none⟩) (by simp; omega), World.cell?_alloc_lt _ _ _ l1]
    exact (hb2.cell (p := ⟨w1.heap.size, 1, none⟩) (by simp)).trans (one1 _ _ _ _)
  have hB : Below w.heap.size w w3 := by repeat (first | (refine below_set ?_ ?hsz _; case hsz => (first | omega | (simp; done) | (simp; omega) | (have hs0 := hb.size; simp at hs0 ⊢; omega) | (have hs1 := hb1.size; simp at hs1 ⊢; omega) | (have hs1 := hb1.size; have hs2 := hb2.size; simp at hs1 hs2 ⊢; omega))) | exact Below.refl _ _ | refine below_alloc ?_ _ | refine below_drew ?_ | refine below_drewn ?_ _ | refine below_step ?_ hb | refine below_step ?_ hb0 | refine below_step ?_ hb1 | refine below_step ?_ hb2 | refine below_step ?_ hb3 | refine below_step ?_ hb4 | refine below_step ?_ hb5 | refine below_step ?_ hb6 | refine below_step ?_ hb7)
  clear hb1 hb2 hb3
  go_wp2_with fail
  go_ret
  exact ⟨rfl, hB⟩
end Go.Proofs.YtgppimdakafniaaDoor
