/- The reference's Compare. Condition: both numbers are valid. -/
import Derived.Test.YtgppimdakafniaaDoorDecS
namespace Go.Proofs.YtgppimdakafniaaDoor
open Go Go.RowKit Go.PlainAid

set_option maxHeartbeats 8000000 in
theorem refCmp_any (a sa b sb : Int) (w : World) (h : Both a sa b sb) :
    Calls Tryd.prog 20 #[(.agg #[.int .i64 (a), .int .i64 (sa)]), (.agg #[.int .i64 (b), .int .i64 (sb)])] w fun e w' => e = .returned (.int .i64 (cmpI a sa b sb)) ∧ Below w.heap.size w w' := by
  have m1 : sa ≤ max sa sb := by omega
  have m2 : sb ≤ max sa sb := by omega
  have m3 : max sa sb ≤ 12 := by have := h.1.2.2.2; have := h.2.2.2.2; omega
  have HA := hide h.1
  have HB := hide h.2
  have DA := hide (digs_len_sca h.1 m1 m3)
  have DB := hide (digs_len_sca h.2 m2 m3)
  clear h
  go_enter Tryd.func20, Tryd.ntmps20
  go_wp2_with fail
  go_region_held3 (fun w' => w'.cell? ⟨w.heap.size, 0, none⟩ = some (.int .i64 a) ∧ w'.cell? ⟨w.heap.size, 1, none⟩ = some (.int .i64 sa) ∧ w'.cell? ⟨w.heap.size + 1, 0, none⟩ = some (.int .i64 b) ∧ w'.cell? ⟨w.heap.size + 1, 1, none⟩ = some (.int .i64 sb) ∧ Below ((w.alloc (.cells #[.int .i64 a, .int .i64 sa] 23)).alloc (.cells #[.int .i64 b, .int .i64 sb] 23)).heap.size ((w.alloc (.cells #[.int .i64 a, .int .i64 sa] 23)).alloc (.cells #[.int .i64 b, .int .i64 sb] 23)) w')
    ((refine keep4 ?_ (lt2a _ _ _) (two0 _ _ _ _ _) (lt2a _ _ _) (two1 _ _ _ _ _) (lt2b _ _ _) (top0 _ _ _ _ _) (lt2b _ _ _) (top1 _ _ _ _ _); repeat (first | (refine below_set ?_ ?hsz _; case hsz => (first | omega | (simp; done) | (simp; omega) | (have hs0 := hb.size; simp at hs0 ⊢; omega) | (have hs1 := hb1.size; simp at hs1 ⊢; omega) | (have hs1 := hb1.size; have hs2 := hb2.size; simp at hs1 hs2 ⊢; omega))) | exact Below.refl _ _ | refine below_alloc ?_ _ | refine below_drew ?_ | refine below_drewn ?_ _ | refine below_step ?_ hb | refine below_step ?_ hb0 | refine below_step ?_ hb1 | refine below_step ?_ hb2 | refine below_step ?_ hb3 | refine below_step ?_ hb4 | refine below_step ?_ hb5 | refine below_step ?_ hb6 | refine below_step ?_ hb7)))
    (first
      | (go_at_call 31; (with_reducible refine (at_any a sa (max sa sb) _ HA.out m1 m3).mono ?_); rintro e w1 ⟨A, ca, rfl, la, lca, ra, fa, hb1⟩; have RA := hide ra; clear ra fa la lca)
      | (go_at_call 31; (with_reducible refine (at_any b sb (max sa sb) _ HB.out m2 m3).mono ?_); rintro e w2 ⟨B, cb, rfl, lb, lcb, rb, fb, hb2⟩; have RB := hide rb; clear rb fb lb lcb)
      | (go_at_call 33; (with_reducible refine (order_any _ _ A B ca cb _ ?_ ?_ ?_ ?_).mono ?_); (exact RA.out.below (by repeat (first | (refine below_set ?_ ?hsz _; case hsz => (first | omega | (simp; done) | (simp; omega) | (have hs0 := hb.size; simp at hs0 ⊢; omega) | (have hs1 := hb1.size; simp at hs1 ⊢; omega) | (have hs1 := hb1.size; have hs2 := hb2.size; simp at hs1 hs2 ⊢; omega))) | exact Below.refl _ _ | refine below_alloc ?_ _ | refine below_drew ?_ | refine below_drewn ?_ _ | refine below_step ?_ hb | refine below_step ?_ hb0 | refine below_step ?_ hb1 | refine below_step ?_ hb2 | refine below_step ?_ hb3 | refine below_step ?_ hb4 | refine below_step ?_ hb5 | refine below_step ?_ hb6 | refine below_step ?_ hb7))); (exact RB.out.below (by repeat (first | (refine below_set ?_ ?hsz _; case hsz => (first | omega | (simp; done) | (simp; omega) | (have hs0 := hb.size; simp at hs0 ⊢; omega) | (have hs1 := hb1.size; simp at hs1 ⊢; omega) | (have hs1 := hb1.size; have hs2 := hb2.size; simp at hs1 hs2 ⊢; omega))) | exact Below.refl _ _ | refine below_alloc ?_ _ | refine below_drew ?_ | refine below_drewn ?_ _ | refine below_step ?_ hb | refine below_step ?_ hb0 | refine below_step ?_ hb1 | refine below_step ?_ hb2 | refine below_step ?_ hb3 | refine below_step ?_ hb4 | refine below_step ?_ hb5 | refine below_step ?_ hb6 | refine below_step ?_ hb7))); (have := DA.out; omega); (have := DB.out; omega); rintro e w3 ⟨rfl, hb3⟩))
  all_goals (
    go_wp2_with fail
    go_ret
    exact ⟨rfl, by repeat (first | (refine below_set ?_ ?hsz _; case hsz => (first | omega | (simp; done) | (simp; omega) | (have hs0 := hb.size; simp at hs0 ⊢; omega) | (have hs1 := hb1.size; simp at hs1 ⊢; omega) | (have hs1 := hb1.size; have hs2 := hb2.size; simp at hs1 hs2 ⊢; omega))) | exact Below.refl _ _ | refine below_alloc ?_ _ | refine below_drew ?_ | refine below_drewn ?_ _ | refine below_step ?_ hb | refine below_step ?_ hb0 | refine below_step ?_ hb1 | refine below_step ?_ hb2 | refine below_step ?_ hb3 | refine below_step ?_ hb4 | refine below_step ?_ hb5 | refine below_step ?_ hb6 | refine below_step ?_ hb7)⟩)
end Go.Proofs.YtgppimdakafniaaDoor
