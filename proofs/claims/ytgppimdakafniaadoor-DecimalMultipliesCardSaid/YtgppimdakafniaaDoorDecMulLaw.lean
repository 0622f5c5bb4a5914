/- DecimalMultiplies, walked. Condition: the tables hold what the program's text lays. -/
import Derived.Test.YtgppimdakafniaaDoorDecV
import Derived.Test.YtgppimdakafniaaDoorDecRefMul
namespace Go.Proofs.YtgppimdakafniaaDoor
open Go Go.RowKit Go.PlainAid

theorem MulOut.one {a sa b sb n t e n' t' e' : Int} (h : MulOut a sa b sb n t e) (g : MulOut a sa b sb n' t' e') : n = n' ∧ t = t' ∧ e = e' := by
  rcases h with ⟨hb, hs, h⟩ | ⟨hb, hs, rfl, rfl, rfl⟩ | ⟨hb, rfl, rfl, rfl⟩ <;> rcases g with ⟨gb, gs, g⟩ | ⟨gb, gs, rfl, rfl, rfl⟩ | ⟨gb, rfl, rfl, rfl⟩
  · exact h.one g
  · omega
  · exact absurd hb gb
  · omega
  · exact ⟨rfl, rfl, rfl⟩
  · exact absurd hb gb
  · exact absurd gb hb
  · exact absurd gb hb
  · exact ⟨rfl, rfl, rfl⟩

set_option maxHeartbeats 8000000 in
theorem decimalMultiplies_walk (a sa b sb : Int) (w : World) (hL : Laid w) :
    Calls Tryd.prog 7 #[(.agg #[.int .i64 (a), .int .i64 (sa)]), (.agg #[.int .i64 (b), .int .i64 (sb)])] w fun e w' => e = .returned (.bool true) ∧ Below w.heap.size w w' := by
  have PH := hide hL.pows
  clear hL
  go_enter Tryd.func7, Tryd.ntmps7
  go_wp2_with fail
  refine (mul_any a sa b sb _).mono ?_
  rintro e w1 ⟨xn, xs, e1, rfl, hO1, hb1⟩
  obtain ⟨k1, k2, k3, k4⟩ := lift_two hb1
  have hB : Below w.heap.size w w1 := by repeat (first | (refine below_set ?_ ?hsz _; case hsz => (first | omega | (simp; done) | (simp; omega) | (have hs0 := hb.size; simp at hs0 ⊢; omega) | (have hs1 := hb1.size; simp at hs1 ⊢; omega) | (have hs1 := hb1.size; have hs2 := hb2.size; simp at hs1 hs2 ⊢; omega))) | exact Below.refl _ _ | refine below_alloc ?_ _ | refine below_drew ?_ | refine below_drewn ?_ _ | refine below_step ?_ hb | refine below_step ?_ hb0 | refine below_step ?_ hb1 | refine below_step ?_ hb2 | refine below_step ?_ hb3 | refine below_step ?_ hb4 | refine below_step ?_ hb5 | refine below_step ?_ hb6 | refine below_step ?_ hb7)
  have O1 := hide hO1
  clear hb1 hO1
  have l1 : w.heap.size < w1.heap.size := World.block_lt_of_cell? _ _ k1
  have l3 : w.heap.size + 1 < w1.heap.size := World.block_lt_of_cell? _ _ k3
  go_wp2_with fail
  refine (refMul_any a sa b sb _).mono ?_
  rintro e w2 ⟨yn, ys, e2, rfl, hO2, hb2⟩
  obtain ⟨rfl, rfl, rfl⟩ := O1.out.one hO2
  clear hO2 O1 l1 l3
  have p1 := new0 hb2
  have p2 := new1 hb2
  replace hB := below_new hB hb2
  clear hb2 k1 k2 k3 k4
  have lp : w1.heap.size < w2.heap.size := World.block_lt_of_cell? _ _ p1
  go_wp2_with fail
  refine (known_any _ (PH.out.below (below_alloc hB _))).mono ?_
  rintro e w3 ⟨rfl, hb3⟩
  have q1 := new0 hb3
  have q2 := new1 hb3
  replace p1 := lift1 hb3 p1
  replace p2 := lift1 hb3 p2
  replace hB := below_new hB hb3
  clear hb3 lp
  go_wp2_with fail
  go_ret
  exact ⟨rfl, hB⟩
end Go.Proofs.YtgppimdakafniaaDoor
