/- Divisions of small numbers, towards the example of the chapter. Condition: the tables hold what the program's text lays. -/
import Derived.Test.YtcifakhpggoebabGreatDoorDecE
import Derived.Test.YtcifakhpggoebabGreatDoorDecH
namespace Go.Proofs.YtcifakhpggoebabGreatDoor
open Go Go.RowKit Go.PlainAid

theorem quiet_ex {P : Program} {f : FuncId} {args : Array Value} {w : World} {n : Nat} {v : Value}
    (h : Calls P f args (w.drewN n) fun e w' => e = .returned v ∧ ∃ m, w' = (w.drewN n).drewN m) : Calls P f args (w.drewN n) fun e w' => e = .returned v ∧ ∃ m, w' = w.drewN m :=
  h.mono fun _ _ ⟨he, m, hm⟩ => ⟨he, n + m, by rw [hm, World.drewN_drewN]⟩

set_option maxHeartbeats 1000000 in
/-- a division whose upper word is zero -/
theorem div64_small (x y : Nat) (w : World) (hx : x < 18446744073709551616) (hy : y < 18446744073709551616) (h0 : 0 < y) :
    Calls Tryz.prog 156 #[.int .u64 0, .int .u64 x, .int .u64 y] w fun e w' => e = .returned (.tuple #[.int .u64 ((x / y : Nat) : Int), .int .u64 ((x % y : Nat) : Int)]) ∧ ∃ k, w' = w.drewN k := by
  have q1 : ((y : Int) == 0) = false := by simp; omega
  have q2 : decide ((y : Int) ≤ 0) = false := by simp; omega
  have q3 : (0 : Int) < (y : Int) := by omega
  go_enter Tryz.func156, Tryz.ntmps156
  go_wp2_with fail
  go_quiet (fail)
  go_wp2_with fail
  go_ret2
  have hle : x / y ≤ x := Nat.div_le_self _ _
  have hw : IntKind.u64.wrap ((x : Int) / (y : Int)) = (x : Int) / (y : Int) := by
    rw [← Int.natCast_ediv]
    generalize x / y = q at *
    rw [IntKind.wrap_u64]; omega
  exact ⟨by simp [hw], _, rfl⟩

set_option maxHeartbeats 1000000 in
theorem signed_false (a b : Int) (w : World) :
    Calls Tryz.prog 31 #[(.agg #[.int .u64 (a), .int .u64 (b)]), .bool false] w fun e w' => e = .returned (.agg #[.int .u64 (a), .int .u64 (b)]) ∧ Below w.heap.size w w' := by
  go_enter Tryz.func31, Tryz.ntmps31
  go_wp2_with fail
  exact bodyPost_ret (v := (.agg #[.int .u64 (a), .int .u64 (b)])) (by simp [results, Tryz.results31, go_sem]) rfl ⟨rfl, below2 _ _ _⟩
theorem number_word (q s : Int) (w : World) (h : 0 ≤ q) (g : q ≤ 999999999999999) :
    Calls Tryz.prog 26 #[(.agg #[.int .u64 (0), .int .u64 (q)]), .int .i64 s] w fun e w' => e = .returned (.tuple #[(.agg #[.int .i64 (q), .int .i64 (s)]), .int .i64 0]) ∧ Below w.heap.size w w' := by
  have := number_fits q s q w false h g (fun W => negative_no q W (by unfold Fits; omega) h) fun W => signed_word_no q W h (by omega)
  rw [hi_small h (by omega), lo_small h (by omega)] at this
  exact this
theorem mul64_1_100 (w : World) : Calls Tryz.prog 74 #[.int .u64 1, .int .u64 100] w fun e w' => e = .returned (.tuple #[.int .u64 0, .int .u64 100]) ∧ w' = w := Tryz.bits_Mul64 1 100 (by decide) (by decide) w
theorem mul64_0_1 (w : World) : Calls Tryz.prog 74 #[.int .u64 0, .int .u64 1] w fun e w' => e = .returned (.tuple #[.int .u64 0, .int .u64 0]) ∧ w' = w := Tryz.bits_Mul64 0 1 (by decide) (by decide) w
theorem mul64_100_1 (w : World) : Calls Tryz.prog 74 #[.int .u64 100, .int .u64 1] w fun e w' => e = .returned (.tuple #[.int .u64 0, .int .u64 100]) ∧ w' = w := Tryz.bits_Mul64 100 1 (by decide) (by decide) w
theorem add64_0 (w : World) : (callFunc 75 #[.int .u64 0, .int .u64 0, .int .u64 0]).run Tryz.prog w = .ok (.value (.tuple #[.int .u64 0, .int .u64 0])) w := Tryz.bits_Add64 0 0 0 (by omega) w
theorem div64_100_3 (w : World) : Calls Tryz.prog 156 #[.int .u64 0, .int .u64 100, .int .u64 3] w fun e w' => e = .returned (.tuple #[.int .u64 33, .int .u64 1]) ∧ ∃ k, w' = w.drewN k := div64_small 100 3 w (by decide) (by decide) (by decide)
set_option maxHeartbeats 1000000 in
theorem multiply_known (w : World) : Calls Tryz.prog 78 #[.int .u64 0, .int .u64 100, .int .u64 1] w fun e w' => e = .returned (.tuple #[.int .u64 0, .int .u64 100, .bool true]) ∧ w' = w := by
  go_enter Tryz.func78, Tryz.ntmps78
  go_wp2_with fail
  refine (mul64_0_1 _).mono ?_
  rintro e w' ⟨rfl, rfl⟩
  go_wp2_with fail
  refine (mul64_100_1 _).mono ?_
  rintro e w' ⟨rfl, rfl⟩
  go_wp2_with (simp only [add64_0])
  go_ret3
  exact ⟨rfl, rfl⟩
set_option maxHeartbeats 1000000 in
theorem even_known (w : World) : Calls Tryz.prog 77 #[.int .u64 0, .int .u64 100, .int .u64 3] w fun e w' => e = .returned (.tuple #[.int .u64 33, .bool true]) ∧ ∃ k, w' = w.drewN k := by
  go_enter Tryz.func77, Tryz.ntmps77
  go_wp2_with fail
  refine (div64_100_3 _).mono ?_
  rintro e w' ⟨rfl, k, rfl⟩
  go_wp2_with fail
  go_ret2
  exact ⟨rfl, _, rfl⟩
set_option maxHeartbeats 1000000 in
theorem quot_known (w : World) (hP : Pows w) : Calls Tryz.prog 29 #[.int .u64 1, .int .u64 3, .int .i64 2] w fun e w' => e = .returned (.tuple #[.int .u64 33, .bool true]) ∧ ∃ k, w' = w.drewN k := by
  have p0 := hP.at_ (i := 0) rfl
  have p2 := hP.at_ (i := 2) rfl
  have hmin : (min 2 12 : Int) = 2 := by decide
  clear hP
  go_enter Tryz.func29, Tryz.ntmps29
  go_wp2_with fail
  refine (mul64_1_100 _).mono ?_
  rintro e w' ⟨rfl, rfl⟩
  go_wp2_with fail
  refine (multiply_known _).mono ?_
  rintro e w' ⟨rfl, rfl⟩
  go_wp2_with fail
  refine (even_known _).mono ?_
  rintro e w' ⟨rfl, k, rfl⟩
  go_wp2_with fail
  go_ret2
  exact ⟨rfl, _, rfl⟩
set_option maxHeartbeats 4000000 in
theorem div_known (w : World) (hP : Pows w) : Calls Tryz.prog 11 #[(.agg #[.int .i64 (1), .int .i64 (0)]), (.agg #[.int .i64 (3), .int .i64 (0)]), .int .i64 2] w fun e w' => e = .returned (.tuple #[(.agg #[.int .i64 (33), .int .i64 (2)]), .int .i64 0]) ∧ Below w.heap.size w w' := by
  have PH := hide hP
  have hlt := hP.lt
  clear hP
  go_enter Tryz.func11, Tryz.ntmps11
  go_wp2_with fail
  refine (both_ok _ _ _ _ _ ⟨by unfold okN; decide, by unfold okN; decide⟩).mono ?_
  rintro e w1 ⟨rfl, hb1⟩
  obtain ⟨hc1, hf1⟩ := bcell hb1
  have z1 : w.heap.size + 1 + 1 < w1.heap.size := by have := hb1.size; simp at this; omega
  have r0w : w1.cell? ⟨w.heap.size + 1 + 1, 0, none⟩ = some (.int .i64 0) := by rw [hc1 _ _ (by simp)]; simp [go_sem]
  have r1w : w1.cell? ⟨w.heap.size + 1 + 1, 1, none⟩ = some (.int .i64 0) := by rw [hc1 _ _ (by simp)]; simp [go_sem]
  have f0w : w1.frozen? ⟨w.heap.size + 1 + 1, 0, none⟩ = false := by rw [hf1 _ _ (by simp)]; simp [go_sem]
  have f1w : w1.frozen? ⟨w.heap.size + 1 + 1, 1, none⟩ = false := by rw [hf1 _ _ (by simp)]; simp [go_sem]
  have P1 := hide (PH.out.below (show Below w.heap.size w w1 by repeat (first | (refine below_set ?_ ?hsz _; case hsz => (first | omega | (simp; done) | (simp; omega) | (have hs0 := hb.size; simp at hs0 ⊢; omega) | (have hs1 := hb1.size; simp at hs1 ⊢; omega) | (have hs1 := hb1.size; have hs2 := hb2.size; simp at hs1 hs2 ⊢; omega))) | exact Below.refl _ _ | refine below_alloc ?_ _ | refine below_drew ?_ | refine below_drewn ?_ _ | refine below_step ?_ hb | refine below_step ?_ hb0 | refine below_step ?_ hb1 | refine below_step ?_ hb2 | refine below_step ?_ hb3 | refine below_step ?_ hb4 | refine below_step ?_ hb5 | refine below_step ?_ hb6 | refine below_step ?_ hb7)))
  go_wp2_with fail
  refine (scale_yes _ _ (by decide) (by decide)).mono ?_
  rintro e w' ⟨rfl, rfl⟩
  go_wp2_with fail
  go_quiet ((first | (go_at_call 30; with_reducible exact Calls.quiet_of_same (magnitude_q _ _ (by decide) (by decide))) | (go_at_call 29; with_reducible exact quiet_ex (quot_known _ (P1.out.below (below_drewN (Below.refl _ _) _))))))
  go_wp2_with fail
  refine (signed_false _ _ _).mono ?_
  rintro e w2 ⟨rfl, hb2⟩
  go_wp2_with fail
  refine (number_word _ _ _ (by decide) (by decide)).mono ?_
  rintro e w5 ⟨rfl, hb5⟩
  have hW : Below w1.heap.size w1 w5 := by repeat (first | (refine below_set ?_ ?hsz _; case hsz => (first | omega | (simp; done) | (simp; omega) | (have hs0 := hb.size; simp at hs0 ⊢; omega) | (have hs1 := hb1.size; simp at hs1 ⊢; omega) | (have hs1 := hb1.size; have hs2 := hb2.size; simp at hs1 hs2 ⊢; omega))) | exact Below.refl _ _ | refine below_alloc ?_ _ | refine below_drew ?_ | refine below_drewn ?_ _ | refine below_step ?_ hb | refine below_step ?_ hb0 | refine below_step ?_ hb1 | refine below_step ?_ hb2 | refine below_step ?_ hb3 | refine below_step ?_ hb4 | refine below_step ?_ hb5 | refine below_step ?_ hb6 | refine below_step ?_ hb7)
  have r0 := (hW.cell (p := ⟨w.heap.size + 1 + 1, 0, none⟩) z1).trans r0w
  have r1 := (hW.cell (p := ⟨w.heap.size + 1 + 1, 1, none⟩) z1).trans r1w
  have f0 := (hW.frozen (p := ⟨w.heap.size + 1 + 1, 0, none⟩) z1).trans f0w
  have f1 := (hW.frozen (p := ⟨w.heap.size + 1 + 1, 1, none⟩) z1).trans f1w
  go_wp2_with fail
  exact bodyPost_ret (v := .tuple #[(.agg #[.int .i64 (33), .int .i64 (2)]), .int .i64 0]) (by simp [results, Tryz.results11, go_sem, r0, r1]) rfl ⟨rfl, by repeat (first | (refine below_set ?_ ?hsz _; case hsz => (first | omega | (simp; done) | (simp; omega) | (have hs0 := hb.size; simp at hs0 ⊢; omega) | (have hs1 := hb1.size; simp at hs1 ⊢; omega) | (have hs1 := hb1.size; have hs2 := hb2.size; simp at hs1 hs2 ⊢; omega))) | exact Below.refl _ _ | refine below_alloc ?_ _ | refine below_drew ?_ | refine below_drewn ?_ _ | refine below_step ?_ hb | refine below_step ?_ hb0 | refine below_step ?_ hb1 | refine below_step ?_ hb2 | refine below_step ?_ hb3 | refine below_step ?_ hb4 | refine below_step ?_ hb5 | refine below_step ?_ hb6 | refine below_step ?_ hb7)⟩
end Go.Proofs.YtcifakhpggoebabGreatDoor
