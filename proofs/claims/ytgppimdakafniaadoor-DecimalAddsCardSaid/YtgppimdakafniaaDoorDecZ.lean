/- DecimalAdds, walked. Condition: the tables hold what the program's text lays. -/
import Derived.Test.YtgppimdakafniaaDoorDecV
import Derived.Test.YtgppimdakafniaaDoorDecRefAdd
namespace Go.Proofs.YtgppimdakafniaaDoor
open Go Go.RowKit Go.PlainAid

theorem AddOut.one {q a sa b sb n t e n' t' e' : Int} (h : AddOut q a sa b sb n t e) (g : AddOut q a sa b sb n' t' e') : n = n' ∧ t = t' ∧ e = e' := by
  rcases h with ⟨hb, h⟩ | ⟨hb, rfl, rfl, rfl⟩ <;> rcases g with ⟨gb, g⟩ | ⟨gb, rfl, rfl, rfl⟩
  · exact h.one g
  · exact absurd hb gb
  · exact absurd gb hb
  · exact ⟨rfl, rfl, rfl⟩
theorem okN_neg {n s : Int} (h : okN n s) : okN (-n) s := ⟨by have := h.2.1; omega, by have := h.1; omega, h.2.2⟩
theorem sub_is_add {a sa b sb n t e n' t' e' : Int} (hb : okN b sb) (h : AddOut (-1) a sa b sb n t e) (g : AddOut 1 a sa (-b) sb n' t' e') : n = n' ∧ t = t' ∧ e = e' := by
  have hs : (-1) * sca b sb (max sa sb) = 1 * sca (-b) sb (max sa sb) := by unfold sca; rw [Int.neg_mul, Int.one_mul, Int.one_mul, Int.neg_mul]
  rcases h with ⟨hv, h⟩ | ⟨hv, rfl, rfl, rfl⟩ <;> rcases g with ⟨gv, g⟩ | ⟨gv, rfl, rfl, rfl⟩
  · rw [hs] at h; exact h.one g
  · exact absurd ⟨hv.1, okN_neg hb⟩ gv
  · exact absurd ⟨gv.1, hb⟩ hv
  · exact ⟨rfl, rfl, rfl⟩
theorem sub_is_none {a sa b sb n t e n' t' e' : Int} (hb : ¬ okN b sb) (h : AddOut (-1) a sa b sb n t e) (g : AddOut 1 a sa b sb n' t' e') : n = n' ∧ t = t' ∧ e = e' := by
  rcases h with ⟨hv, h⟩ | ⟨hv, rfl, rfl, rfl⟩ <;> rcases g with ⟨gv, g⟩ | ⟨gv, rfl, rfl, rfl⟩
  · exact absurd hv.2 hb
  · exact absurd hv.2 hb
  · exact absurd gv.2 hb
  · exact ⟨rfl, rfl, rfl⟩
theorem lift2 {X Y : World} {o q : Obj} {p : Addr} {v : Value} (hb : Below ((X.alloc o).alloc q).heap.size ((X.alloc o).alloc q) Y) (h : X.cell? p = some v) : Y.cell? p = some v :=
  lift1 hb ((World.cell?_alloc_lt _ _ _ (World.block_lt_of_cell? X p h)).trans h)
theorem lift_set {X : World} {g i : Nat} {p : Addr} {v : Value} (u : Value) (hp : p ≠ ⟨g, i, none⟩) (h : X.cell? p = some v) : (X.setCell ⟨g, i, none⟩ u).cell? p = some v := (World.cell?_setCell_other _ _ _ _ (Ne.symm hp)).trans h

set_option maxRecDepth 100000 in
set_option maxHeartbeats 16000000 in
theorem decimalAdds_walk (a sa b sb : Int) (w : World) (hL : Laid w) :
    Calls Tryd.prog 6 #[(.agg #[.int .i64 (a), .int .i64 (sa)]), (.agg #[.int .i64 (b), .int .i64 (sb)])] w fun e w' => e = .returned (.bool true) ∧ Below w.heap.size w w' := by
  have PH := hide hL.pows
  clear hL
  go_enter Tryd.func6, Tryd.ntmps6
  go_wp2_with fail
  refine (add_any a sa b sb _ ?_).mono ?_
  · exact PH.out.below (by repeat (first | (refine below_set ?_ ?hsz _; case hsz => (first | omega | (simp; done) | (simp; omega) | (have hs0 := hb.size; simp at hs0 ⊢; omega) | (have hs1 := hb1.size; simp at hs1 ⊢; omega) | (have hs1 := hb1.size; have hs2 := hb2.size; simp at hs1 hs2 ⊢; omega))) | exact Below.refl _ _ | refine below_alloc ?_ _ | refine below_drew ?_ | refine below_drewn ?_ _ | refine below_step ?_ hb | refine below_step ?_ hb0 | refine below_step ?_ hb1 | refine below_step ?_ hb2 | refine below_step ?_ hb3 | refine below_step ?_ hb4 | refine below_step ?_ hb5 | refine below_step ?_ hb6 | refine below_step ?_ hb7))
  rintro e w1 ⟨xn, xs, e1, rfl, hO1, hb1⟩
  obtain ⟨k1, k2, k3, k4⟩ := lift_two hb1
  have hB : Below w.heap.size w w1 := by repeat (first | (refine below_set ?_ ?hsz _; case hsz => (first | omega | (simp; done) | (simp; omega) | (have hs0 := hb.size; simp at hs0 ⊢; omega) | (have hs1 := hb1.size; simp at hs1 ⊢; omega) | (have hs1 := hb1.size; have hs2 := hb2.size; simp at hs1 hs2 ⊢; omega))) | exact Below.refl _ _ | refine below_alloc ?_ _ | refine below_drew ?_ | refine below_drewn ?_ _ | refine below_step ?_ hb | refine below_step ?_ hb0 | refine below_step ?_ hb1 | refine below_step ?_ hb2 | refine below_step ?_ hb3 | refine below_step ?_ hb4 | refine below_step ?_ hb5 | refine below_step ?_ hb6 | refine below_step ?_ hb7)
  have O1 := hide hO1
  clear hb1 hO1
  have lk1 : w.heap.size < w1.heap.size := World.block_lt_of_cell? _ _ k1
  have lk3 : w.heap.size + 1 < w1.heap.size := World.block_lt_of_cell? _ _ k3
  go_wp2_with fail
  refine (sub_any a sa b sb _ (PH.out.below (below_alloc hB _))).mono ?_
  rintro e w2 ⟨yn, ys, e2, rfl, hO2, hb2⟩
  have O2 := hide hO2
  clear hO2
  clear lk1 lk3
  have p1 := new0 hb2
  have p2 := new1 hb2
  replace k1 := lift1 hb2 k1
  replace k2 := lift1 hb2 k2
  replace k3 := lift1 hb2 k3
  replace k4 := lift1 hb2 k4
  replace hB := below_new hB hb2
  clear hb2
  have lk1 : w.heap.size < w2.heap.size := World.block_lt_of_cell? _ _ k1
  have lk3 : w.heap.size + 1 < w2.heap.size := World.block_lt_of_cell? _ _ k3
  have lp1 : w1.heap.size < w2.heap.size := World.block_lt_of_cell? _ _ p1
  go_wp2_with fail
  refine (refAdd_any a sa b sb _).mono ?_
  rintro e w3 ⟨wn, ws, e3, rfl, hO3, hb3⟩
  obtain ⟨rfl, rfl, rfl⟩ := O1.out.one hO3
  clear hO3 O1
  clear lk1 lk3 lp1
  have q1 := new0 hb3
  have q2 := new1 hb3
  replace k1 := lift1 hb3 k1
  replace k2 := lift1 hb3 k2
  replace k3 := lift1 hb3 k3
  replace k4 := lift1 hb3 k4
  replace p1 := lift1 hb3 p1
  replace p2 := lift1 hb3 p2
  replace hB := below_new hB hb3
  clear hb3
  have lk1 : w.heap.size < w3.heap.size := World.block_lt_of_cell? _ _ k1
  have lk3 : w.heap.size + 1 < w3.heap.size := World.block_lt_of_cell? _ _ k3
  have lp1 : w1.heap.size < w3.heap.size := World.block_lt_of_cell? _ _ p1
  have lq1 : w2.heap.size < w3.heap.size := World.block_lt_of_cell? _ _ q1
  by_cases hv : okN b sb
  · have V := hide hv
    clear hv
    go_wp2_with fail
    refine (is_yes _ _ _ V.out).mono ?_
    rintro e w4 ⟨rfl, hb4⟩
    clear lk1 lk3 lp1 lq1
    have r1 : w4.cell? ⟨w3.heap.size, 0, none⟩ = some (.int .i64 xn) := lift0 hb4 (two0 _ _ _ _ _)
    have r2 : w4.cell? ⟨w3.heap.size, 1, none⟩ = some (.int .i64 xs) := lift0 hb4 (two1 _ _ _ _ _)
    have s1 : w4.cell? ⟨w3.heap.size + 1, 0, none⟩ = some (.int .i64 b) := lift0 hb4 (top0 _ _ _ _ _)
    have s2 : w4.cell? ⟨w3.heap.size + 1, 1, none⟩ = some (.int .i64 sb) := lift0 hb4 (top1 _ _ _ _ _)
    have sf : w4.frozen? ⟨w3.heap.size + 1, 0, none⟩ = false := (hb4.frozen (p := ⟨w3.heap.size + 1, 0, none⟩) (lt2b _ _ _)).trans (by simp [go_sem])
    have d1 : w.heap.size < w3.heap.size := World.block_lt_of_cell? _ _ k1
    have d2 : w.heap.size + 1 < w3.heap.size := World.block_lt_of_cell? _ _ k3
    have d3 : w1.heap.size < w3.heap.size := World.block_lt_of_cell? _ _ p1
    have d4 : w2.heap.size < w3.heap.size := World.block_lt_of_cell? _ _ q1
    replace k1 := lift2 hb4 k1
    replace k2 := lift2 hb4 k2
    replace k3 := lift2 hb4 k3
    replace k4 := lift2 hb4 k4
    replace p1 := lift2 hb4 p1
    replace p2 := lift2 hb4 p2
    replace q1 := lift2 hb4 q1
    replace q2 := lift2 hb4 q2
    replace hB := below_step (below_alloc (below_alloc hB _) _) hb4
    clear hb4
    have bn0 := V.out.1
    have bn1 := V.out.2.1
    go_wp2_with fail
    refine (refAdd_any a sa (-b) sb _).mono ?_
    rintro e w5 ⟨vn, vs, e5, rfl, hO5, hb5⟩
    obtain ⟨rfl, rfl, rfl⟩ := sub_is_add V.out O2.out hO5
    clear hO5 O2 bn0 bn1
    replace k1 := lift0 hb5 (lift_set (.int .i64 (-b)) (by simp; try omega) k1)
    replace k2 := lift0 hb5 (lift_set (.int .i64 (-b)) (by simp; try omega) k2)
    replace k3 := lift0 hb5 (lift_set (.int .i64 (-b)) (by simp; try omega) k3)
    replace k4 := lift0 hb5 (lift_set (.int .i64 (-b)) (by simp; try omega) k4)
    replace p1 := lift0 hb5 (lift_set (.int .i64 (-b)) (by simp; try omega) p1)
    replace p2 := lift0 hb5 (lift_set (.int .i64 (-b)) (by simp; try omega) p2)
    replace q1 := lift0 hb5 (lift_set (.int .i64 (-b)) (by simp; try omega) q1)
    replace q2 := lift0 hb5 (lift_set (.int .i64 (-b)) (by simp; try omega) q2)
    replace r1 := lift0 hb5 (lift_set (.int .i64 (-b)) (by simp; try omega) r1)
    replace r2 := lift0 hb5 (lift_set (.int .i64 (-b)) (by simp; try omega) r2)
    replace hB := below_step (below_set (b := w3.heap.size + 1) (o := 0) hB (by omega) _) hb5
    clear hb5
    clear s1 s2 sf d1 d2 d3 d4
    have lp1 : w1.heap.size < w5.heap.size := World.block_lt_of_cell? _ _ p1
    have lq1 : w2.heap.size < w5.heap.size := World.block_lt_of_cell? _ _ q1
    have lr1 : w3.heap.size < w5.heap.size := World.block_lt_of_cell? _ _ r1
    go_wp2_with fail
    refine (known_any _ (PH.out.below (below_alloc hB _))).mono ?_
    rintro e w6 ⟨rfl, hb6⟩
    clear lp1 lq1 lr1
    have t1 := new0 hb6
    have t2 := new1 hb6
    replace k1 := lift1 hb6 k1
    replace k2 := lift1 hb6 k2
    replace k3 := lift1 hb6 k3
    replace k4 := lift1 hb6 k4
    replace p1 := lift1 hb6 p1
    replace p2 := lift1 hb6 p2
    replace q1 := lift1 hb6 q1
    replace q2 := lift1 hb6 q2
    replace r1 := lift1 hb6 r1
    replace r2 := lift1 hb6 r2
    replace hB := below_new hB hb6
    clear hb6
    go_wp2_with fail
    go_ret
    exact ⟨rfl, hB⟩
  · have V := hide hv
    clear hv
    go_wp2_with fail
    refine (is_no _ _ _ V.out).mono ?_
    rintro e w4 ⟨rfl, hb4⟩
    clear lk1 lk3 lp1 lq1
    have r1 : w4.cell? ⟨w3.heap.size, 0, none⟩ = some (.int .i64 xn) := lift0 hb4 (two0 _ _ _ _ _)
    have r2 : w4.cell? ⟨w3.heap.size, 1, none⟩ = some (.int .i64 xs) := lift0 hb4 (two1 _ _ _ _ _)
    have s1 : w4.cell? ⟨w3.heap.size + 1, 0, none⟩ = some (.int .i64 b) := lift0 hb4 (top0 _ _ _ _ _)
    have s2 : w4.cell? ⟨w3.heap.size + 1, 1, none⟩ = some (.int .i64 sb) := lift0 hb4 (top1 _ _ _ _ _)
    have sf : w4.frozen? ⟨w3.heap.size + 1, 0, none⟩ = false := (hb4.frozen (p := ⟨w3.heap.size + 1, 0, none⟩) (lt2b _ _ _)).trans (by simp [go_sem])
    have d1 : w.heap.size < w3.heap.size := World.block_lt_of_cell? _ _ k1
    have d2 : w.heap.size + 1 < w3.heap.size := World.block_lt_of_cell? _ _ k3
    have d3 : w1.heap.size < w3.heap.size := World.block_lt_of_cell? _ _ p1
    have d4 : w2.heap.size < w3.heap.size := World.block_lt_of_cell? _ _ q1
    replace k1 := lift2 hb4 k1
    replace k2 := lift2 hb4 k2
    replace k3 := lift2 hb4 k3
    replace k4 := lift2 hb4 k4
    replace p1 := lift2 hb4 p1
    replace p2 := lift2 hb4 p2
    replace q1 := lift2 hb4 q1
    replace q2 := lift2 hb4 q2
    replace hB := below_step (below_alloc (below_alloc hB _) _) hb4
    clear hb4
    go_wp2_with fail
    refine (refAdd_any a sa b sb _).mono ?_
    rintro e w5 ⟨vn, vs, e5, rfl, hO5, hb5⟩
    obtain ⟨rfl, rfl, rfl⟩ := sub_is_none V.out O2.out hO5
    clear hO5 O2
    replace k1 := lift0 hb5 k1
    replace k2 := lift0 hb5 k2
    replace k3 := lift0 hb5 k3
    replace k4 := lift0 hb5 k4
    replace p1 := lift0 hb5 p1
    replace p2 := lift0 hb5 p2
    replace q1 := lift0 hb5 q1
    replace q2 := lift0 hb5 q2
    replace r1 := lift0 hb5 r1
    replace r2 := lift0 hb5 r2
    replace hB := below_step hB hb5
    clear hb5
    clear s1 s2 sf d1 d2 d3 d4
    have lp1 : w1.heap.size < w5.heap.size := World.block_lt_of_cell? _ _ p1
    have lq1 : w2.heap.size < w5.heap.size := World.block_lt_of_cell? _ _ q1
    have lr1 : w3.heap.size < w5.heap.size := World.block_lt_of_cell? _ _ r1
    go_wp2_with fail
    refine (known_any _ (PH.out.below (below_alloc hB _))).mono ?_
    rintro e w6 ⟨rfl, hb6⟩
    clear lp1 lq1 lr1
    have t1 := new0 hb6
    have t2 := new1 hb6
    replace k1 := lift1 hb6 k1
    replace k2 := lift1 hb6 k2
    replace k3 := lift1 hb6 k3
    replace k4 := lift1 hb6 k4
    replace p1 := lift1 hb6 p1
    replace p2 := lift1 hb6 p2
    replace q1 := lift1 hb6 q1
    replace q2 := lift1 hb6 q2
    replace r1 := lift1 hb6 r1
    replace r2 := lift1 hb6 r2
    replace hB := below_new hB hb6
    clear hb6
    go_wp2_with fail
    go_ret
    exact ⟨rfl, hB⟩
end Go.Proofs.YtgppimdakafniaaDoor
