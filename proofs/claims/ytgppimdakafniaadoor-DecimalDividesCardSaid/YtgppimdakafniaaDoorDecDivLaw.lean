/- DecimalDivides, walked. Condition: the tables hold what the program's text lays. -/
import Derived.Test.YtgppimdakafniaaDoorDecV
import Derived.Test.YtgppimdakafniaaDoorDecRefDivB
namespace Go.Proofs.YtgppimdakafniaaDoor
open Go Go.RowKit Go.PlainAid

set_option maxHeartbeats 8000000 in
theorem decimalDivides_walk (a sa b sb c : Int) (w : World) (hL : Laid w) :
    Calls Tryd.prog 8 #[(.agg #[.int .i64 (a), .int .i64 (sa)]), (.agg #[.int .i64 (b), .int .i64 (sb)]), .int .i64 c] w fun e w' => e = .returned (.bool true) ∧ Below w.heap.size w w' := by
  have PH := hide hL.pows
  clear hL
  go_enter Tryd.func8, Tryd.ntmps8
  go_wp2_with fail
  refine (div_any a sa b sb c _ (PH.out.below (below2 _ _ _))).mono ?_
  rintro e w1 ⟨n1, t1, e1, rfl, hO1, hb1⟩
  obtain ⟨k1, k2, k3, k4⟩ := lift_two hb1
  have hB : Below w.heap.size w w1 := by repeat (first | (refine below_set ?_ ?hsz _; case hsz => (first | omega | (simp; done) | (simp; omega) | (have hs0 := hb.size; simp at hs0 ⊢; omega) | (have hs1 := hb1.size; simp at hs1 ⊢; omega) | (have hs1 := hb1.size; have hs2 := hb2.size; simp at hs1 hs2 ⊢; omega))) | exact Below.refl _ _ | refine below_alloc ?_ _ | refine below_drew ?_ | refine below_drewn ?_ _ | refine below_step ?_ hb | refine below_step ?_ hb0 | refine below_step ?_ hb1 | refine below_step ?_ hb2 | refine below_step ?_ hb3 | refine below_step ?_ hb4 | refine below_step ?_ hb5 | refine below_step ?_ hb6 | refine below_step ?_ hb7)
  have O1 := hide hO1
  clear hb1 hO1
  have l1 : w.heap.size < w1.heap.size := World.block_lt_of_cell? _ _ k1
  have l3 : w.heap.size + 1 < w1.heap.size := World.block_lt_of_cell? _ _ k3
  go_wp2_with fail
  refine (refDiv_any a sa b sb c _).mono ?_
  rintro e w2 ⟨n2, t2, e2, rfl, hO2, hb2⟩
  obtain ⟨en, et, ee⟩ := O1.out.one hO2
  subst en et ee
  clear hO2 O1 l1 l3
  have p1 := new0 hb2
  have p2 := new1 hb2
  replace k1 := lift1 hb2 k1
  replace k2 := lift1 hb2 k2
  replace hB := below_new hB hb2
  clear hb2 k3 k4
  have lp : w1.heap.size < w2.heap.size := World.block_lt_of_cell? _ _ p1
  have l1 : w.heap.size < w2.heap.size := World.block_lt_of_cell? _ _ k1
  go_wp2_with fail
  refine (round_any a sa c _ (PH.out.below (below_alloc hB _))).mono ?_
  rintro e w3 ⟨n3, t3, e3, rfl, hO3, hb3⟩
  have O3 := hide hO3
  have q1 := new0 hb3
  have q2 := new1 hb3
  replace p1 := lift1 hb3 p1
  replace p2 := lift1 hb3 p2
  replace k1 := lift1 hb3 k1
  replace k2 := lift1 hb3 k2
  replace hB := below_new hB hb3
  clear hb3 hO3 lp l1
  have lp : w1.heap.size < w3.heap.size := World.block_lt_of_cell? _ _ p1
  have lq : w2.heap.size < w3.heap.size := World.block_lt_of_cell? _ _ q1
  have l1 : w.heap.size < w3.heap.size := World.block_lt_of_cell? _ _ k1
  go_wp2_with fail
  refine (refDiv_any a sa 1 0 c _).mono ?_
  rintro e w4 ⟨n4, t4, e4, rfl, hO4, hb4⟩
  obtain ⟨en, et, ee⟩ := DivOut.one O3.out hO4
  subst en et ee
  clear hO4 O3
  have r1 := new0 hb4
  have r2 := new1 hb4
  replace p1 := lift1 hb4 p1
  replace p2 := lift1 hb4 p2
  replace q1 := lift1 hb4 q1
  replace q2 := lift1 hb4 q2
  replace hB := below_new hB hb4
  clear hb4 lp lq l1 k1 k2
  have lp : w1.heap.size < w4.heap.size := World.block_lt_of_cell? _ _ p1
  have lq : w2.heap.size < w4.heap.size := World.block_lt_of_cell? _ _ q1
  have lr : w3.heap.size < w4.heap.size := World.block_lt_of_cell? _ _ r1
  go_wp2_with fail
  refine (known_any _ (PH.out.below (below_alloc hB _))).mono ?_
  rintro e w5 ⟨rfl, hb5⟩
  have s1 := new0 hb5
  have s2 := new1 hb5
  replace p1 := lift1 hb5 p1
  replace p2 := lift1 hb5 p2
  replace q1 := lift1 hb5 q1
  replace q2 := lift1 hb5 q2
  replace r1 := lift1 hb5 r1
  replace r2 := lift1 hb5 r2
  replace hB := below_new hB hb5
  clear hb5 lp lq lr
  go_wp2_with fail
  go_ret
  exact ⟨rfl, hB⟩
end Go.Proofs.YtgppimdakafniaaDoor
