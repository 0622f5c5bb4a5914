/- DecimalChecks, walked. Condition: the tables hold what the program's text lays. -/
import Derived.Test.YtgppimdakafniaaDoorDecX
namespace Go.Proofs.YtgppimdakafniaaDoor
open Go Go.RowKit Go.PlainAid

theorem norm_cmp {n s x t : Int} (g : Normed n s x t) : cmpI x t n s = 0 := by
  obtain ⟨h1, h2, h3, _⟩ := g
  rw [cmp_at (m := s) h2 (Int.le_refl _), sca_self]
  unfold sca
  rw [h3, Int.sub_self]
  rfl
theorem floor_cmp {n s : Int} (h : okN n s) : cmpI (n / ten s) 0 n s ≤ 0 := by
  have hs := h.2.2.1
  rw [cmp_at (m := s) hs (Int.le_refl _), sca_self]
  unfold sca
  rw [Int.sub_zero]
  have h1 := Int.ediv_mul_le n (show ten s ≠ 0 by have := ten_pos s; omega)
  unfold sgn
  split <;> (try split) <;> omega
theorem floor_up {n s : Int} (h : okN n s) : cmpI (n / ten s + 1) 0 n s = 1 := by
  have hs := h.2.2.1
  rw [cmp_at (m := s) hs (Int.le_refl _), sca_self]
  unfold sca
  rw [Int.sub_zero]
  have h1 := Int.lt_ediv_add_one_mul_self n (ten_pos s)
  exact sgn_pos (by omega)
theorem floor_bd {n s : Int} (h : okN n s) : -999999999999999 ≤ n / ten s ∧ n / ten s ≤ 999999999999999 := by
  have hp := ten_pos s
  obtain ⟨h1, h2, _, _⟩ := h
  constructor
  · rw [Int.le_ediv_iff_mul_le hp]
    have : -999999999999999 * ten s ≤ -999999999999999 * 1 := Int.mul_le_mul_of_nonpos_left (by decide) (by omega)
    omega
  · have : n / ten s < 1000000000000000 := by
      rw [Int.ediv_lt_iff_lt_mul hp]
      have : 1000000000000000 * 1 ≤ 1000000000000000 * ten s := Int.mul_le_mul_of_nonneg_left (by omega) (by decide)
      omega
    omega
theorem box1 {w X : World} {a b : Value} {T : TypeId} (hb : Below (w.alloc (.cells #[a, b] T)).heap.size (w.alloc (.cells #[a, b] T)) X) : X.cell? ⟨w.heap.size, 0, none⟩ = some a ∧ X.cell? ⟨w.heap.size, 1, none⟩ = some b := ⟨new0 hb, new1 hb⟩
set_option maxRecDepth 100000 in
set_option maxHeartbeats 16000000 in
theorem checks_ok (n s : Int) (w : World) (hL : Laid w) (h : okN n s) :
    Calls Tryd.prog 3 #[(.agg #[.int .i64 (n), .int .i64 (s)])] w fun e w' => e = .returned (.bool true) ∧ Below w.heap.size w w' := by
  have hn0 := h.1
  have hn1 := h.2.1
  have PH := hide hL.pows
  have H := hide h
  clear hL h
  go_enter Tryd.func3, Tryd.ntmps3
  go_wp2_with fail
  refine (normal_ok n s _ H.out).mono ?_
  rintro e w1 ⟨x, t, rfl, hN, hb1⟩
  have N := hide hN
  clear hN
  obtain ⟨k1, k2⟩ := box1 hb1
  have hB : Below w.heap.size w w1 := by repeat (first | (refine below_set ?_ ?hsz _; case hsz => (first | omega | (simp; done) | (simp; omega) | (have hs0 := hb.size; simp at hs0 ⊢; omega) | (have hs1 := hb1.size; simp at hs1 ⊢; omega) | (have hs1 := hb1.size; have hs2 := hb2.size; simp at hs1 hs2 ⊢; omega))) | exact Below.refl _ _ | refine below_alloc ?_ _ | refine below_drew ?_ | refine below_drewn ?_ _ | refine below_step ?_ hb | refine below_step ?_ hb0 | refine below_step ?_ hb1 | refine below_step ?_ hb2 | refine below_step ?_ hb3 | refine below_step ?_ hb4 | refine below_step ?_ hb5 | refine below_step ?_ hb6 | refine below_step ?_ hb7)
  clear hb1
  have lk1 : w.heap.size < w1.heap.size := World.block_lt_of_cell? _ _ k1
  go_wp2_with fail
  refine (negate_ok n s _ H.out).mono ?_
  rintro e w2 ⟨rfl, hb2⟩
  clear lk1
  have p1 := new0 hb2
  have p2 := new1 hb2
  replace k1 := lift1 hb2 k1
  replace k2 := lift1 hb2 k2
  replace hB := below_new hB hb2
  clear hb2
  have lk1 : w.heap.size < w2.heap.size := World.block_lt_of_cell? _ _ k1
  have lp1 : w1.heap.size < w2.heap.size := World.block_lt_of_cell? _ _ p1
  go_wp2_with fail
  refine (floor_ok n s _ H.out (PH.out.below (below_alloc hB _))).mono ?_
  rintro e w3 ⟨rfl, hb3⟩
  clear lk1 lp1
  have q1 := new0 hb3
  have q2 := new1 hb3
  replace k1 := lift1 hb3 k1
  replace k2 := lift1 hb3 k2
  replace p1 := lift1 hb3 p1
  replace p2 := lift1 hb3 p2
  replace hB := below_new hB hb3
  clear hb3
  have lk1 : w.heap.size < w3.heap.size := World.block_lt_of_cell? _ _ k1
  have lp1 : w1.heap.size < w3.heap.size := World.block_lt_of_cell? _ _ p1
  have lq1 : w2.heap.size < w3.heap.size := World.block_lt_of_cell? _ _ q1
  obtain ⟨z0, z1⟩ := floor_bd H.out
  have FC := hide (floor_cmp H.out)
  have FU := hide (floor_up H.out)
  have NC := hide (norm_cmp N.out)
  generalize n / ten s = z at *
  go_wp2_with fail
  refine (known_any _ (PH.out.below hB)).mono ?_
  rintro e w4 ⟨rfl, hb4⟩
  clear lk1 lp1 lq1
  replace k1 := lift0 hb4 k1
  replace k2 := lift0 hb4 k2
  replace p1 := lift0 hb4 p1
  replace p2 := lift0 hb4 p2
  replace q1 := lift0 hb4 q1
  replace q2 := lift0 hb4 q2
  replace hB := below_step hB hb4
  clear hb4
  have lk1 : w.heap.size < w4.heap.size := World.block_lt_of_cell? _ _ k1
  have lp1 : w1.heap.size < w4.heap.size := World.block_lt_of_cell? _ _ p1
  have lq1 : w2.heap.size < w4.heap.size := World.block_lt_of_cell? _ _ q1
  go_wp2_with fail
  refine (is_yes _ _ _ H.out).mono ?_
  rintro e w5 ⟨rfl, hb5⟩
  clear lk1 lp1 lq1
  replace k1 := lift0 hb5 k1
  replace k2 := lift0 hb5 k2
  replace p1 := lift0 hb5 p1
  replace p2 := lift0 hb5 p2
  replace q1 := lift0 hb5 q1
  replace q2 := lift0 hb5 q2
  replace hB := below_step hB hb5
  clear hb5
  have lk1 : w.heap.size < w5.heap.size := World.block_lt_of_cell? _ _ k1
  have lp1 : w1.heap.size < w5.heap.size := World.block_lt_of_cell? _ _ p1
  have lq1 : w2.heap.size < w5.heap.size := World.block_lt_of_cell? _ _ q1
  go_wp2_with fail
  refine (check_ok _ _ _ H.out).mono ?_
  rintro e w6 ⟨rfl, hb6⟩
  clear lk1 lp1 lq1
  replace k1 := lift0 hb6 k1
  replace k2 := lift0 hb6 k2
  replace p1 := lift0 hb6 p1
  replace p2 := lift0 hb6 p2
  replace q1 := lift0 hb6 q1
  replace q2 := lift0 hb6 q2
  replace hB := below_step hB hb6
  clear hb6
  have lk1 : w.heap.size < w6.heap.size := World.block_lt_of_cell? _ _ k1
  have lp1 : w1.heap.size < w6.heap.size := World.block_lt_of_cell? _ _ p1
  have lq1 : w2.heap.size < w6.heap.size := World.block_lt_of_cell? _ _ q1
  go_wp2_with fail
  refine (is_yes _ _ _ N.out.1).mono ?_
  rintro e w7 ⟨rfl, hb7⟩
  clear lk1 lp1 lq1
  replace k1 := lift0 hb7 k1
  replace k2 := lift0 hb7 k2
  replace p1 := lift0 hb7 p1
  replace p2 := lift0 hb7 p2
  replace q1 := lift0 hb7 q1
  replace q2 := lift0 hb7 q2
  replace hB := below_step hB hb7
  clear hb7
  have lk1 : w.heap.size < w7.heap.size := World.block_lt_of_cell? _ _ k1
  have lp1 : w1.heap.size < w7.heap.size := World.block_lt_of_cell? _ _ p1
  have lq1 : w2.heap.size < w7.heap.size := World.block_lt_of_cell? _ _ q1
  have C8 : Hid (∀ W, Calls Tryd.prog 20 #[(.agg #[.int .i64 (x), .int .i64 (t)]), (.agg #[.int .i64 (n), .int .i64 (s)])] W fun e w' => e = .returned (.int .i64 0) ∧ Below W.heap.size W w') := hide fun W => by
    have := refCmp_any x t n s W ⟨N.out.1, H.out⟩
    rwa [NC.out] at this
  go_wp2_with fail
  refine (C8.out _).mono ?_
  rintro e w8 ⟨rfl, hb8⟩
  clear lk1 lp1 lq1
  replace k1 := lift0 hb8 k1
  replace k2 := lift0 hb8 k2
  replace p1 := lift0 hb8 p1
  replace p2 := lift0 hb8 p2
  replace q1 := lift0 hb8 q1
  replace q2 := lift0 hb8 q2
  replace hB := below_step hB hb8
  clear hb8
  have lk1 : w.heap.size < w8.heap.size := World.block_lt_of_cell? _ _ k1
  have lp1 : w1.heap.size < w8.heap.size := World.block_lt_of_cell? _ _ p1
  have lq1 : w2.heap.size < w8.heap.size := World.block_lt_of_cell? _ _ q1
  have C9 : Hid (∀ W, Calls Tryd.prog 20 #[(.agg #[.int .i64 (z), .int .i64 (0)]), (.agg #[.int .i64 (n), .int .i64 (s)])] W fun e w' => e = .returned (.int .i64 (cmpI z 0 n s)) ∧ Below W.heap.size W w') := hide fun W => refCmp_any z 0 n s W ⟨⟨z0, z1, by decide, by decide⟩, H.out⟩
  have fc := FC.out
  have hq : decide (cmpI z 0 n s ≤ 0) = true := by simpa using fc
  generalize cmpI z 0 n s = y at *
  have last : (0 < t ∧ (x.tmod 10 == 0) = false) ∨ t = 0 := by
    rcases N.out.2.2.2 with h | h
    · exact .inr h
    · by_cases ht : t = 0
      · exact .inr ht
      · have := N.out.1.2.2.1
        exact .inl ⟨by omega, by simpa using h⟩
  clear C8 NC FC N
  rcases last with ⟨t1, t2⟩ | rfl
  · go_wp2_with fail
    refine (C9.out _).mono ?_
    rintro e w9 ⟨rfl, hb9⟩
    by_cases hz : z = 999999999999999
    · subst hz
      go_wp2_with fail
      go_ret
      exact ⟨rfl, below_new hB hb9⟩
    · have zz : (z == 999999999999999) = false := by simpa using hz
      have CU : Hid (∀ W, Calls Tryd.prog 20 #[(.agg #[.int .i64 (z + 1), .int .i64 (0)]), (.agg #[.int .i64 (n), .int .i64 (s)])] W fun e w' => e = .returned (.int .i64 1) ∧ Below W.heap.size W w') := hide fun W => by
        have := refCmp_any (z + 1) 0 n s W ⟨⟨by omega, by omega, by decide, by decide⟩, H.out⟩
        rwa [FU.out] at this
      have u0 := new0 hb9
      have u1 := new1 hb9
      replace k1 := lift1 hb9 k1
      replace k2 := lift1 hb9 k2
      have l9 : w8.heap.size < w9.heap.size := World.block_lt_of_cell? _ _ u0
      replace hB := below_new hB hb9
      clear hb9 hz
      go_wp2_with fail
      refine (CU.out _).mono ?_
      rintro e w10 ⟨rfl, hb10⟩
      go_wp2_with fail
      go_ret
      exact ⟨rfl, below_step hB hb10⟩
  · go_wp2_with fail
    refine (C9.out _).mono ?_
    rintro e w9 ⟨rfl, hb9⟩
    by_cases hz : z = 999999999999999
    · subst hz
      go_wp2_with fail
      go_ret
      exact ⟨rfl, below_new hB hb9⟩
    · have zz : (z == 999999999999999) = false := by simpa using hz
      have CU : Hid (∀ W, Calls Tryd.prog 20 #[(.agg #[.int .i64 (z + 1), .int .i64 (0)]), (.agg #[.int .i64 (n), .int .i64 (s)])] W fun e w' => e = .returned (.int .i64 1) ∧ Below W.heap.size W w') := hide fun W => by
        have := refCmp_any (z + 1) 0 n s W ⟨⟨by omega, by omega, by decide, by decide⟩, H.out⟩
        rwa [FU.out] at this
      have u0 := new0 hb9
      have u1 := new1 hb9
      replace k1 := lift1 hb9 k1
      replace k2 := lift1 hb9 k2
      have l9 : w8.heap.size < w9.heap.size := World.block_lt_of_cell? _ _ u0
      replace hB := below_new hB hb9
      clear hb9 hz
      go_wp2_with fail
      refine (CU.out _).mono ?_
      rintro e w10 ⟨rfl, hb10⟩
      go_wp2_with fail
      go_ret
      exact ⟨rfl, below_step hB hb10⟩
set_option maxRecDepth 100000 in
set_option maxHeartbeats 16000000 in
theorem checks_no (n s : Int) (w : World) (hL : Laid w) (h : ¬ okN n s) :
    Calls Tryd.prog 3 #[(.agg #[.int .i64 (n), .int .i64 (s)])] w fun e w' => e = .returned (.bool true) ∧ Below w.heap.size w w' := by
  have PH := hide hL.pows
  have H := hide h
  clear hL h
  go_enter Tryd.func3, Tryd.ntmps3
  go_wp2_with fail
  refine (normal_no n s _ H.out).mono ?_
  rintro e w1 ⟨rfl, hb1⟩
  obtain ⟨k1, k2⟩ := box1 hb1
  have hB : Below w.heap.size w w1 := by repeat (first | (refine below_set ?_ ?hsz _; case hsz => (first | omega | (simp; done) | (simp; omega) | (have hs0 := hb.size; simp at hs0 ⊢; omega) | (have hs1 := hb1.size; simp at hs1 ⊢; omega) | (have hs1 := hb1.size; have hs2 := hb2.size; simp at hs1 hs2 ⊢; omega))) | exact Below.refl _ _ | refine below_alloc ?_ _ | refine below_drew ?_ | refine below_drewn ?_ _ | refine below_step ?_ hb | refine below_step ?_ hb0 | refine below_step ?_ hb1 | refine below_step ?_ hb2 | refine below_step ?_ hb3 | refine below_step ?_ hb4 | refine below_step ?_ hb5 | refine below_step ?_ hb6 | refine below_step ?_ hb7)
  clear hb1
  have lk1 : w.heap.size < w1.heap.size := World.block_lt_of_cell? _ _ k1
  go_wp2_with fail
  refine (negate_no n s _ H.out).mono ?_
  rintro e w2 ⟨rfl, hb2⟩
  clear lk1
  have p1 := new0 hb2
  have p2 := new1 hb2
  replace k1 := lift1 hb2 k1
  replace k2 := lift1 hb2 k2
  replace hB := below_new hB hb2
  clear hb2
  have lk1 : w.heap.size < w2.heap.size := World.block_lt_of_cell? _ _ k1
  have lp1 : w1.heap.size < w2.heap.size := World.block_lt_of_cell? _ _ p1
  go_wp2_with fail
  refine (floor_no n s _ H.out).mono ?_
  rintro e w3 ⟨rfl, hb3⟩
  clear lk1 lp1
  have q1 := new0 hb3
  have q2 := new1 hb3
  replace k1 := lift1 hb3 k1
  replace k2 := lift1 hb3 k2
  replace p1 := lift1 hb3 p1
  replace p2 := lift1 hb3 p2
  replace hB := below_new hB hb3
  clear hb3
  have lk1 : w.heap.size < w3.heap.size := World.block_lt_of_cell? _ _ k1
  have lp1 : w1.heap.size < w3.heap.size := World.block_lt_of_cell? _ _ p1
  have lq1 : w2.heap.size < w3.heap.size := World.block_lt_of_cell? _ _ q1
  go_wp2_with fail
  refine (known_any _ (PH.out.below hB)).mono ?_
  rintro e w4 ⟨rfl, hb4⟩
  clear lk1 lp1 lq1
  replace k1 := lift0 hb4 k1
  replace k2 := lift0 hb4 k2
  replace p1 := lift0 hb4 p1
  replace p2 := lift0 hb4 p2
  replace q1 := lift0 hb4 q1
  replace q2 := lift0 hb4 q2
  replace hB := below_step hB hb4
  clear hb4
  have lk1 : w.heap.size < w4.heap.size := World.block_lt_of_cell? _ _ k1
  have lp1 : w1.heap.size < w4.heap.size := World.block_lt_of_cell? _ _ p1
  have lq1 : w2.heap.size < w4.heap.size := World.block_lt_of_cell? _ _ q1
  go_wp2_with fail
  refine (is_no _ _ _ H.out).mono ?_
  rintro e w5 ⟨rfl, hb5⟩
  clear lk1 lp1 lq1
  replace k1 := lift0 hb5 k1
  replace k2 := lift0 hb5 k2
  replace p1 := lift0 hb5 p1
  replace p2 := lift0 hb5 p2
  replace q1 := lift0 hb5 q1
  replace q2 := lift0 hb5 q2
  replace hB := below_step hB hb5
  clear hb5
  have lk1 : w.heap.size < w5.heap.size := World.block_lt_of_cell? _ _ k1
  have lp1 : w1.heap.size < w5.heap.size := World.block_lt_of_cell? _ _ p1
  have lq1 : w2.heap.size < w5.heap.size := World.block_lt_of_cell? _ _ q1
  go_wp2_with fail
  refine (check_no _ _ _ H.out).mono ?_
  rintro e w6 ⟨rfl, hb6⟩
  clear lk1 lp1 lq1
  replace k1 := lift0 hb6 k1
  replace k2 := lift0 hb6 k2
  replace p1 := lift0 hb6 p1
  replace p2 := lift0 hb6 p2
  replace q1 := lift0 hb6 q1
  replace q2 := lift0 hb6 q2
  replace hB := below_step hB hb6
  clear hb6
  have lk1 : w.heap.size < w6.heap.size := World.block_lt_of_cell? _ _ k1
  have lp1 : w1.heap.size < w6.heap.size := World.block_lt_of_cell? _ _ p1
  have lq1 : w2.heap.size < w6.heap.size := World.block_lt_of_cell? _ _ q1
  go_wp2_with fail
  go_ret
  exact ⟨rfl, hB⟩
theorem decimalChecks_walk (n s : Int) (w : World) (hL : Laid w) :
    Calls Tryd.prog 3 #[(.agg #[.int .i64 (n), .int .i64 (s)])] w fun e w' => e = .returned (.bool true) ∧ Below w.heap.size w w' := by
  by_cases h : okN n s
  · exact checks_ok n s w hL h
  · exact checks_no n s w hL h
end Go.Proofs.YtgppimdakafniaaDoor
