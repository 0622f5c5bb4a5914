/- DecimalRing, walked. Condition: the tables hold what the program's text lays. -/
import Derived.Test.YtgppimdakafniaaDoorDecM
import Derived.Test.YtgppimdakafniaaDoorDecLift
namespace Go.Proofs.YtgppimdakafniaaDoor
open Go Go.RowKit Go.PlainAid

set_option maxRecDepth 100000 in
set_option maxHeartbeats 32000000 in
theorem decimalRing_walk (a sa b sb c sc : Int) (w : World) (hL : Laid w) :
    Calls Tryd.prog 11 #[(.agg #[.int .i64 (a), .int .i64 (sa)]), (.agg #[.int .i64 (b), .int .i64 (sb)]), (.agg #[.int .i64 (c), .int .i64 (sc)])] w fun e w' => e = .returned (.bool true) ∧ Below w.heap.size w w' := by
  have PH := hide hL.pows
  clear hL
  go_enter Tryd.func11, Tryd.ntmps11
  go_wp2_with fail
  refine (known_any _ ?_).mono ?_
  · exact PH.out.below (by repeat (first | (refine below_set ?_ ?hsz _; case hsz => (first | omega | (simp; done) | (simp; omega) | (have hs0 := hb.size; simp at hs0 ⊢; omega) | (have hs1 := hb1.size; simp at hs1 ⊢; omega) | (have hs1 := hb1.size; have hs2 := hb2.size; simp at hs1 hs2 ⊢; omega))) | exact Below.refl _ _ | refine below_alloc ?_ _ | refine below_drew ?_ | refine below_drewn ?_ _ | refine below_step ?_ hb | refine below_step ?_ hb0 | refine below_step ?_ hb1 | refine below_step ?_ hb2 | refine below_step ?_ hb3 | refine below_step ?_ hb4 | refine below_step ?_ hb5 | refine below_step ?_ hb6 | refine below_step ?_ hb7))
  rintro e w1 ⟨rfl, hb1⟩
  obtain ⟨k1, k2, k3, k4, k5, k6⟩ := box3 w a sa b sb c sc _ hb1
  have hB : Below w.heap.size w w1 := by repeat (first | (refine below_set ?_ ?hsz _; case hsz => (first | omega | (simp; done) | (simp; omega) | (have hs0 := hb.size; simp at hs0 ⊢; omega) | (have hs1 := hb1.size; simp at hs1 ⊢; omega) | (have hs1 := hb1.size; have hs2 := hb2.size; simp at hs1 hs2 ⊢; omega))) | exact Below.refl _ _ | refine below_alloc ?_ _ | refine below_drew ?_ | refine below_drewn ?_ _ | refine below_step ?_ hb | refine below_step ?_ hb0 | refine below_step ?_ hb1 | refine below_step ?_ hb2 | refine below_step ?_ hb3 | refine below_step ?_ hb4 | refine below_step ?_ hb5 | refine below_step ?_ hb6 | refine below_step ?_ hb7)
  clear hb1
  have lk1 : w.heap.size < w1.heap.size := World.block_lt_of_cell? _ _ k1
  have lk3 : w.heap.size + 1 < w1.heap.size := World.block_lt_of_cell? _ _ k3
  have lk5 : w.heap.size + 1 + 1 < w1.heap.size := World.block_lt_of_cell? _ _ k5
  go_wp2_with fail
  refine (add_any a sa b sb _ (PH.out.below hB)).mono ?_
  rintro e w2 ⟨n1, t1, e1, rfl, hO1, hb2⟩
  have O1 := hide hO1
  clear hO1
  clear lk1 lk3 lk5
  replace k1 := lift0 hb2 k1
  replace k2 := lift0 hb2 k2
  replace k3 := lift0 hb2 k3
  replace k4 := lift0 hb2 k4
  replace k5 := lift0 hb2 k5
  replace k6 := lift0 hb2 k6
  replace hB := below_step hB hb2
  clear hb2
  have lk1 : w.heap.size < w2.heap.size := World.block_lt_of_cell? _ _ k1
  have lk3 : w.heap.size + 1 < w2.heap.size := World.block_lt_of_cell? _ _ k3
  have lk5 : w.heap.size + 1 + 1 < w2.heap.size := World.block_lt_of_cell? _ _ k5
  go_wp2_with fail
  refine (add_any b sb a sa _ (PH.out.below (below_alloc hB _))).mono ?_
  rintro e w3 ⟨n2, t2, e2, rfl, hO2, hb3⟩
  obtain ⟨rfl, rfl, rfl⟩ := add_comm_out O1.out hO2
  clear hO2
  clear lk1 lk3 lk5
  have p1 := new0 hb3
  have p2 := new1 hb3
  replace k1 := lift1 hb3 k1
  replace k2 := lift1 hb3 k2
  replace k3 := lift1 hb3 k3
  replace k4 := lift1 hb3 k4
  replace k5 := lift1 hb3 k5
  replace k6 := lift1 hb3 k6
  replace hB := below_new hB hb3
  clear hb3
  have lk1 : w.heap.size < w3.heap.size := World.block_lt_of_cell? _ _ k1
  have lk3 : w.heap.size + 1 < w3.heap.size := World.block_lt_of_cell? _ _ k3
  have lk5 : w.heap.size + 1 + 1 < w3.heap.size := World.block_lt_of_cell? _ _ k5
  have lp1 : w2.heap.size < w3.heap.size := World.block_lt_of_cell? _ _ p1
  go_wp2_with fail
  refine (mul_any a sa c sc _).mono ?_
  rintro e w4 ⟨n3, t3, e3, rfl, hO3, hb4⟩
  have O3 := hide hO3
  clear hO3
  clear lk1 lk3 lk5 lp1
  have z1 := new0 hb4
  have z2 := new1 hb4
  replace k1 := lift1 hb4 k1
  replace k2 := lift1 hb4 k2
  replace k3 := lift1 hb4 k3
  replace k4 := lift1 hb4 k4
  replace k5 := lift1 hb4 k5
  replace k6 := lift1 hb4 k6
  replace p1 := lift1 hb4 p1
  replace p2 := lift1 hb4 p2
  replace hB := below_new hB hb4
  clear hb4
  have lk1 : w.heap.size < w4.heap.size := World.block_lt_of_cell? _ _ k1
  have lk3 : w.heap.size + 1 < w4.heap.size := World.block_lt_of_cell? _ _ k3
  have lk5 : w.heap.size + 1 + 1 < w4.heap.size := World.block_lt_of_cell? _ _ k5
  have lp1 : w2.heap.size < w4.heap.size := World.block_lt_of_cell? _ _ p1
  have lz1 : w3.heap.size < w4.heap.size := World.block_lt_of_cell? _ _ z1
  go_wp2_with fail
  refine (mul_any c sc a sa _).mono ?_
  rintro e w5 ⟨n4, t4, e4, rfl, hO4, hb5⟩
  obtain ⟨rfl, rfl, rfl⟩ := mul_comm_out O3.out hO4
  clear hO4
  clear lk1 lk3 lk5 lp1 lz1
  have q1 := new0 hb5
  have q2 := new1 hb5
  replace k1 := lift1 hb5 k1
  replace k2 := lift1 hb5 k2
  replace k3 := lift1 hb5 k3
  replace k4 := lift1 hb5 k4
  replace k5 := lift1 hb5 k5
  replace k6 := lift1 hb5 k6
  replace p1 := lift1 hb5 p1
  replace p2 := lift1 hb5 p2
  replace z1 := lift1 hb5 z1
  replace z2 := lift1 hb5 z2
  replace hB := below_new hB hb5
  clear hb5
  have lk1 : w.heap.size < w5.heap.size := World.block_lt_of_cell? _ _ k1
  have lk3 : w.heap.size + 1 < w5.heap.size := World.block_lt_of_cell? _ _ k3
  have lk5 : w.heap.size + 1 + 1 < w5.heap.size := World.block_lt_of_cell? _ _ k5
  have lp1 : w2.heap.size < w5.heap.size := World.block_lt_of_cell? _ _ p1
  have lz1 : w3.heap.size < w5.heap.size := World.block_lt_of_cell? _ _ z1
  have lq1 : w4.heap.size < w5.heap.size := World.block_lt_of_cell? _ _ q1
  by_cases he1 : e1 = 0
  rotate_left
  · have z1 : (e1 == 0) = false := by simpa using he1
    have z2 : (e1 != 0) = true := by simpa using he1
    clear he1
    go_wp2_with fail
    go_ret
    exact ⟨rfl, below_alloc hB _⟩
  by_cases he3 : e3 = 0
  rotate_left
  · have z1 : (e3 == 0) = false := by simpa using he3
    have z2 : (e3 != 0) = true := by simpa using he3
    clear he3
    subst he1
    go_wp2_with fail
    go_ret
    exact ⟨rfl, below_alloc hB _⟩
  subst he1 he3
  go_wp2_with fail
  refine (sub_any n1 t1 b sb _ (PH.out.below (below_alloc hB _))).mono ?_
  rintro e w6 ⟨d, ds, i, rfl, hO6, hb6⟩
  have O6 := hide hO6
  clear hO6
  clear lk1 lk3 lk5 lp1 lz1 lq1
  have r1 := new0 hb6
  have r2 := new1 hb6
  replace k1 := lift1 hb6 k1
  replace k2 := lift1 hb6 k2
  replace k3 := lift1 hb6 k3
  replace k4 := lift1 hb6 k4
  replace k5 := lift1 hb6 k5
  replace k6 := lift1 hb6 k6
  replace p1 := lift1 hb6 p1
  replace p2 := lift1 hb6 p2
  replace z1 := lift1 hb6 z1
  replace z2 := lift1 hb6 z2
  replace q1 := lift1 hb6 q1
  replace q2 := lift1 hb6 q2
  replace hB := below_new hB hb6
  clear hb6
  have lk1 : w.heap.size < w6.heap.size := World.block_lt_of_cell? _ _ k1
  have lk3 : w.heap.size + 1 < w6.heap.size := World.block_lt_of_cell? _ _ k3
  have lk5 : w.heap.size + 1 + 1 < w6.heap.size := World.block_lt_of_cell? _ _ k5
  have lp1 : w2.heap.size < w6.heap.size := World.block_lt_of_cell? _ _ p1
  have lz1 : w3.heap.size < w6.heap.size := World.block_lt_of_cell? _ _ z1
  have lq1 : w4.heap.size < w6.heap.size := World.block_lt_of_cell? _ _ q1
  have lr1 : w5.heap.size < w6.heap.size := World.block_lt_of_cell? _ _ r1
  go_wp2_with fail
  refine (cmp_any d ds a sa _ (PH.out.below (below_alloc hB _))).mono ?_
  rintro e w7 ⟨k, j, rfl, hO7, hb7⟩
  have O7 := hide (sub_add_out O1.out O6.out hO7)
  clear hO7 O6
  clear lk1 lk3 lk5 lp1 lz1 lq1 lr1
  have s1 := new0 hb7
  have s2 := new1 hb7
  replace k1 := lift1 hb7 k1
  replace k2 := lift1 hb7 k2
  replace k3 := lift1 hb7 k3
  replace k4 := lift1 hb7 k4
  replace k5 := lift1 hb7 k5
  replace k6 := lift1 hb7 k6
  replace p1 := lift1 hb7 p1
  replace p2 := lift1 hb7 p2
  replace z1 := lift1 hb7 z1
  replace z2 := lift1 hb7 z2
  replace q1 := lift1 hb7 q1
  replace q2 := lift1 hb7 q2
  replace r1 := lift1 hb7 r1
  replace r2 := lift1 hb7 r2
  replace hB := below_new hB hb7
  clear hb7
  have lk1 : w.heap.size < w7.heap.size := World.block_lt_of_cell? _ _ k1
  have lk3 : w.heap.size + 1 < w7.heap.size := World.block_lt_of_cell? _ _ k3
  have lk5 : w.heap.size + 1 + 1 < w7.heap.size := World.block_lt_of_cell? _ _ k5
  have lp1 : w2.heap.size < w7.heap.size := World.block_lt_of_cell? _ _ p1
  have lz1 : w3.heap.size < w7.heap.size := World.block_lt_of_cell? _ _ z1
  have lq1 : w4.heap.size < w7.heap.size := World.block_lt_of_cell? _ _ q1
  have lr1 : w5.heap.size < w7.heap.size := World.block_lt_of_cell? _ _ r1
  have ls1 : w6.heap.size < w7.heap.size := World.block_lt_of_cell? _ _ s1
  obtain ⟨oi, ok⟩ := O7.out
  clear O7
  rcases oi with rfl | rfl
  · obtain ⟨rfl, rfl⟩ := ok rfl
    clear ok
    go_wp2_with fail
    refine (mul_any b sb c sc _).mono ?_
    rintro e w8 ⟨rn, rs, f1, rfl, hO8, hb8⟩
    have O8 := hide hO8
    clear hO8
    clear lk1 lk3 lk5 lp1 lz1 lq1 lr1 ls1
    replace k1 := lift0 hb8 k1
    replace k2 := lift0 hb8 k2
    replace k3 := lift0 hb8 k3
    replace k4 := lift0 hb8 k4
    replace k5 := lift0 hb8 k5
    replace k6 := lift0 hb8 k6
    replace p1 := lift0 hb8 p1
    replace p2 := lift0 hb8 p2
    replace z1 := lift0 hb8 z1
    replace z2 := lift0 hb8 z2
    replace q1 := lift0 hb8 q1
    replace q2 := lift0 hb8 q2
    replace r1 := lift0 hb8 r1
    replace r2 := lift0 hb8 r2
    replace s1 := lift0 hb8 s1
    replace s2 := lift0 hb8 s2
    replace hB := below_step hB hb8
    clear hb8
    have lk1 : w.heap.size < w8.heap.size := World.block_lt_of_cell? _ _ k1
    have lk3 : w.heap.size + 1 < w8.heap.size := World.block_lt_of_cell? _ _ k3
    have lk5 : w.heap.size + 1 + 1 < w8.heap.size := World.block_lt_of_cell? _ _ k5
    have lp1 : w2.heap.size < w8.heap.size := World.block_lt_of_cell? _ _ p1
    have lz1 : w3.heap.size < w8.heap.size := World.block_lt_of_cell? _ _ z1
    have lq1 : w4.heap.size < w8.heap.size := World.block_lt_of_cell? _ _ q1
    have lr1 : w5.heap.size < w8.heap.size := World.block_lt_of_cell? _ _ r1
    have ls1 : w6.heap.size < w8.heap.size := World.block_lt_of_cell? _ _ s1
    go_wp2_with fail
    refine (mul_any n1 t1 c sc _).mono ?_
    rintro e w9 ⟨sn, ss, f2, rfl, hO9, hb9⟩
    have O9 := hide hO9
    clear hO9
    clear lk1 lk3 lk5 lp1 lz1 lq1 lr1 ls1
    have g1 := new0 hb9
    have g2 := new1 hb9
    replace k1 := lift1 hb9 k1
    replace k2 := lift1 hb9 k2
    replace k3 := lift1 hb9 k3
    replace k4 := lift1 hb9 k4
    replace k5 := lift1 hb9 k5
    replace k6 := lift1 hb9 k6
    replace p1 := lift1 hb9 p1
    replace p2 := lift1 hb9 p2
    replace z1 := lift1 hb9 z1
    replace z2 := lift1 hb9 z2
    replace q1 := lift1 hb9 q1
    replace q2 := lift1 hb9 q2
    replace r1 := lift1 hb9 r1
    replace r2 := lift1 hb9 r2
    replace s1 := lift1 hb9 s1
    replace s2 := lift1 hb9 s2
    replace hB := below_new hB hb9
    clear hb9
    have lk1 : w.heap.size < w9.heap.size := World.block_lt_of_cell? _ _ k1
    have lk3 : w.heap.size + 1 < w9.heap.size := World.block_lt_of_cell? _ _ k3
    have lk5 : w.heap.size + 1 + 1 < w9.heap.size := World.block_lt_of_cell? _ _ k5
    have lp1 : w2.heap.size < w9.heap.size := World.block_lt_of_cell? _ _ p1
    have lz1 : w3.heap.size < w9.heap.size := World.block_lt_of_cell? _ _ z1
    have lq1 : w4.heap.size < w9.heap.size := World.block_lt_of_cell? _ _ q1
    have lr1 : w5.heap.size < w9.heap.size := World.block_lt_of_cell? _ _ r1
    have ls1 : w6.heap.size < w9.heap.size := World.block_lt_of_cell? _ _ s1
    have lg1 : w8.heap.size < w9.heap.size := World.block_lt_of_cell? _ _ g1
    go_wp2_with fail
    refine (add_any n3 t3 rn rs _ (PH.out.below (below_alloc hB _))).mono ?_
    rintro e w10 ⟨un, us, f3, rfl, hO10, hb10⟩
    have O10 := hide hO10
    clear hO10
    clear lk1 lk3 lk5 lp1 lz1 lq1 lr1 ls1 lg1
    have h1 := new0 hb10
    have h2 := new1 hb10
    replace k1 := lift1 hb10 k1
    replace k2 := lift1 hb10 k2
    replace k3 := lift1 hb10 k3
    replace k4 := lift1 hb10 k4
    replace k5 := lift1 hb10 k5
    replace k6 := lift1 hb10 k6
    replace p1 := lift1 hb10 p1
    replace p2 := lift1 hb10 p2
    replace z1 := lift1 hb10 z1
    replace z2 := lift1 hb10 z2
    replace q1 := lift1 hb10 q1
    replace q2 := lift1 hb10 q2
    replace r1 := lift1 hb10 r1
    replace r2 := lift1 hb10 r2
    replace s1 := lift1 hb10 s1
    replace s2 := lift1 hb10 s2
    replace g1 := lift1 hb10 g1
    replace g2 := lift1 hb10 g2
    replace hB := below_new hB hb10
    clear hb10
    have lk1 : w.heap.size < w10.heap.size := World.block_lt_of_cell? _ _ k1
    have lk3 : w.heap.size + 1 < w10.heap.size := World.block_lt_of_cell? _ _ k3
    have lk5 : w.heap.size + 1 + 1 < w10.heap.size := World.block_lt_of_cell? _ _ k5
    have lp1 : w2.heap.size < w10.heap.size := World.block_lt_of_cell? _ _ p1
    have lz1 : w3.heap.size < w10.heap.size := World.block_lt_of_cell? _ _ z1
    have lq1 : w4.heap.size < w10.heap.size := World.block_lt_of_cell? _ _ q1
    have lr1 : w5.heap.size < w10.heap.size := World.block_lt_of_cell? _ _ r1
    have ls1 : w6.heap.size < w10.heap.size := World.block_lt_of_cell? _ _ s1
    have lg1 : w8.heap.size < w10.heap.size := World.block_lt_of_cell? _ _ g1
    have lh1 : w9.heap.size < w10.heap.size := World.block_lt_of_cell? _ _ h1
    by_cases hf1 : f1 = 0
    rotate_left
    · have z1 : (f1 == 0) = false := by simpa using hf1
      have z2 : (f1 != 0) = true := by simpa using hf1
      clear hf1
      go_wp2_with fail
      go_ret
      exact ⟨rfl, below_alloc hB _⟩
    by_cases hf2 : f2 = 0
    rotate_left
    · have z1 : (f2 == 0) = false := by simpa using hf2
      have z2 : (f2 != 0) = true := by simpa using hf2
      clear hf2
      subst hf1
      go_wp2_with fail
      go_ret
      exact ⟨rfl, below_alloc hB _⟩
    by_cases hf3 : f3 = 0
    rotate_left
    · have z1 : (f3 == 0) = false := by simpa using hf3
      have z2 : (f3 != 0) = true := by simpa using hf3
      clear hf3
      subst hf1
      subst hf2
      go_wp2_with fail
      go_ret
      exact ⟨rfl, below_alloc hB _⟩
    subst hf1 hf2 hf3
    go_wp2_with fail
    refine (cmp_any sn ss un us _ (PH.out.below (below_alloc hB _))).mono ?_
    rintro e w11 ⟨o, x, rfl, hO11, hb11⟩
    obtain ⟨hx, ho⟩ := distr_out O1.out O3.out O8.out O9.out O10.out hO11
    clear hO11
    rw [hx, ho]
    clear hx ho
    replace hB := below_new hB hb11
    clear lk1 lk3 lk5 lp1 lz1 lq1 lr1 ls1 lg1 lh1 k1 k2 k3 k4 k5 k6 p1 p2 z1 z2 q1 q2 r1 r2 s1 s2 g1 g2 h1 h2
    go_wp2_with fail
    go_ret
    exact ⟨rfl, hB⟩
  · clear ok
    go_wp2_with fail
    refine (mul_any b sb c sc _).mono ?_
    rintro e w8 ⟨rn, rs, f1, rfl, hO8, hb8⟩
    have O8 := hide hO8
    clear hO8
    clear lk1 lk3 lk5 lp1 lz1 lq1 lr1 ls1
    replace k1 := lift0 hb8 k1
    replace k2 := lift0 hb8 k2
    replace k3 := lift0 hb8 k3
    replace k4 := lift0 hb8 k4
    replace k5 := lift0 hb8 k5
    replace k6 := lift0 hb8 k6
    replace p1 := lift0 hb8 p1
    replace p2 := lift0 hb8 p2
    replace z1 := lift0 hb8 z1
    replace z2 := lift0 hb8 z2
    replace q1 := lift0 hb8 q1
    replace q2 := lift0 hb8 q2
    replace r1 := lift0 hb8 r1
    replace r2 := lift0 hb8 r2
    replace s1 := lift0 hb8 s1
    replace s2 := lift0 hb8 s2
    replace hB := below_step hB hb8
    clear hb8
    have lk1 : w.heap.size < w8.heap.size := World.block_lt_of_cell? _ _ k1
    have lk3 : w.heap.size + 1 < w8.heap.size := World.block_lt_of_cell? _ _ k3
    have lk5 : w.heap.size + 1 + 1 < w8.heap.size := World.block_lt_of_cell? _ _ k5
    have lp1 : w2.heap.size < w8.heap.size := World.block_lt_of_cell? _ _ p1
    have lz1 : w3.heap.size < w8.heap.size := World.block_lt_of_cell? _ _ z1
    have lq1 : w4.heap.size < w8.heap.size := World.block_lt_of_cell? _ _ q1
    have lr1 : w5.heap.size < w8.heap.size := World.block_lt_of_cell? _ _ r1
    have ls1 : w6.heap.size < w8.heap.size := World.block_lt_of_cell? _ _ s1
    go_wp2_with fail
    refine (mul_any n1 t1 c sc _).mono ?_
    rintro e w9 ⟨sn, ss, f2, rfl, hO9, hb9⟩
    have O9 := hide hO9
    clear hO9
    clear lk1 lk3 lk5 lp1 lz1 lq1 lr1 ls1
    have g1 := new0 hb9
    have g2 := new1 hb9
    replace k1 := lift1 hb9 k1
    replace k2 := lift1 hb9 k2
    replace k3 := lift1 hb9 k3
    replace k4 := lift1 hb9 k4
    replace k5 := lift1 hb9 k5
    replace k6 := lift1 hb9 k6
    replace p1 := lift1 hb9 p1
    replace p2 := lift1 hb9 p2
    replace z1 := lift1 hb9 z1
    replace z2 := lift1 hb9 z2
    replace q1 := lift1 hb9 q1
    replace q2 := lift1 hb9 q2
    replace r1 := lift1 hb9 r1
    replace r2 := lift1 hb9 r2
    replace s1 := lift1 hb9 s1
    replace s2 := lift1 hb9 s2
    replace hB := below_new hB hb9
    clear hb9
    have lk1 : w.heap.size < w9.heap.size := World.block_lt_of_cell? _ _ k1
    have lk3 : w.heap.size + 1 < w9.heap.size := World.block_lt_of_cell? _ _ k3
    have lk5 : w.heap.size + 1 + 1 < w9.heap.size := World.block_lt_of_cell? _ _ k5
    have lp1 : w2.heap.size < w9.heap.size := World.block_lt_of_cell? _ _ p1
    have lz1 : w3.heap.size < w9.heap.size := World.block_lt_of_cell? _ _ z1
    have lq1 : w4.heap.size < w9.heap.size := World.block_lt_of_cell? _ _ q1
    have lr1 : w5.heap.size < w9.heap.size := World.block_lt_of_cell? _ _ r1
    have ls1 : w6.heap.size < w9.heap.size := World.block_lt_of_cell? _ _ s1
    have lg1 : w8.heap.size < w9.heap.size := World.block_lt_of_cell? _ _ g1
    go_wp2_with fail
    refine (add_any n3 t3 rn rs _ (PH.out.below (below_alloc hB _))).mono ?_
    rintro e w10 ⟨un, us, f3, rfl, hO10, hb10⟩
    have O10 := hide hO10
    clear hO10
    clear lk1 lk3 lk5 lp1 lz1 lq1 lr1 ls1 lg1
    have h1 := new0 hb10
    have h2 := new1 hb10
    replace k1 := lift1 hb10 k1
    replace k2 := lift1 hb10 k2
    replace k3 := lift1 hb10 k3
    replace k4 := lift1 hb10 k4
    replace k5 := lift1 hb10 k5
    replace k6 := lift1 hb10 k6
    replace p1 := lift1 hb10 p1
    replace p2 := lift1 hb10 p2
    replace z1 := lift1 hb10 z1
    replace z2 := lift1 hb10 z2
    replace q1 := lift1 hb10 q1
    replace q2 := lift1 hb10 q2
    replace r1 := lift1 hb10 r1
    replace r2 := lift1 hb10 r2
    replace s1 := lift1 hb10 s1
    replace s2 := lift1 hb10 s2
    replace g1 := lift1 hb10 g1
    replace g2 := lift1 hb10 g2
    replace hB := below_new hB hb10
    clear hb10
    have lk1 : w.heap.size < w10.heap.size := World.block_lt_of_cell? _ _ k1
    have lk3 : w.heap.size + 1 < w10.heap.size := World.block_lt_of_cell? _ _ k3
    have lk5 : w.heap.size + 1 + 1 < w10.heap.size := World.block_lt_of_cell? _ _ k5
    have lp1 : w2.heap.size < w10.heap.size := World.block_lt_of_cell? _ _ p1
    have lz1 : w3.heap.size < w10.heap.size := World.block_lt_of_cell? _ _ z1
    have lq1 : w4.heap.size < w10.heap.size := World.block_lt_of_cell? _ _ q1
    have lr1 : w5.heap.size < w10.heap.size := World.block_lt_of_cell? _ _ r1
    have ls1 : w6.heap.size < w10.heap.size := World.block_lt_of_cell? _ _ s1
    have lg1 : w8.heap.size < w10.heap.size := World.block_lt_of_cell? _ _ g1
    have lh1 : w9.heap.size < w10.heap.size := World.block_lt_of_cell? _ _ h1
    by_cases hf1 : f1 = 0
    rotate_left
    · have z1 : (f1 == 0) = false := by simpa using hf1
      have z2 : (f1 != 0) = true := by simpa using hf1
      clear hf1
      go_wp2_with fail
      go_ret
      exact ⟨rfl, below_alloc hB _⟩
    by_cases hf2 : f2 = 0
    rotate_left
    · have z1 : (f2 == 0) = false := by simpa using hf2
      have z2 : (f2 != 0) = true := by simpa using hf2
      clear hf2
      subst hf1
      go_wp2_with fail
      go_ret
      exact ⟨rfl, below_alloc hB _⟩
    by_cases hf3 : f3 = 0
    rotate_left
    · have z1 : (f3 == 0) = false := by simpa using hf3
      have z2 : (f3 != 0) = true := by simpa using hf3
      clear hf3
      subst hf1
      subst hf2
      go_wp2_with fail
      go_ret
      exact ⟨rfl, below_alloc hB _⟩
    subst hf1 hf2 hf3
    go_wp2_with fail
    refine (cmp_any sn ss un us _ (PH.out.below (below_alloc hB _))).mono ?_
    rintro e w11 ⟨o, x, rfl, hO11, hb11⟩
    obtain ⟨hx, ho⟩ := distr_out O1.out O3.out O8.out O9.out O10.out hO11
    clear hO11
    rw [hx, ho]
    clear hx ho
    replace hB := below_new hB hb11
    clear lk1 lk3 lk5 lp1 lz1 lq1 lr1 ls1 lg1 lh1 k1 k2 k3 k4 k5 k6 p1 p2 z1 z2 q1 q2 r1 r2 s1 s2 g1 g2 h1 h2
    go_wp2_with fail
    go_ret
    exact ⟨rfl, hB⟩
end Go.Proofs.YtgppimdakafniaaDoor
