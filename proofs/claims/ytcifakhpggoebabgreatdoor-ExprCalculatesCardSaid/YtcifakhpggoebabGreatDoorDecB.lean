/- The methods of integers of 128 bits: what each call returns. No condition but bounds. -/
import Derived.Test.YtcifakhpggoebabGreatDoorDecA
import Derived.Test.YtcifakhpggoebabGreatDoorDecWide
namespace Go.Proofs.YtcifakhpggoebabGreatDoor
open Go Go.RowKit Go.PlainAid

theorem Tryz.bits_Sub64 (x y b : Nat) (hb : b ≤ 1) (w : World) :
    (callFunc 76 #[.int .u64 x, .int .u64 y, .int .u64 b]).run Tryz.prog w =
      .ok (.value (.tuple #[.int .u64 (((x + 18446744073709551616 - y - b) % 18446744073709551616 : Nat) : Int), .int .u64 ((if x < y + b then 1 else 0 : Nat) : Int)])) w := by
  rw [run_callFunc_extern Tryz.func76 (by kernel_rfl) (by kernel_rfl) (by kernel_rfl) (e := sub64Entry) (by kernel_rfl), run_sub64 x y b hb]
  rfl
theorem Tryz.bits_Add64 (x y c : Nat) (hc : c ≤ 1) (w : World) :
    (callFunc 75 #[.int .u64 x, .int .u64 y, .int .u64 c]).run Tryz.prog w =
      .ok (.value (.tuple #[.int .u64 (((x + y + c) % 18446744073709551616 : Nat) : Int), .int .u64 (((x + y + c) / 18446744073709551616 : Nat) : Int)])) w := by
  rw [run_callFunc_extern Tryz.func75 (by kernel_rfl) (by kernel_rfl) (by kernel_rfl) (e := add64Entry) (by kernel_rfl), run_add64 x y c (by omega) (by omega) (by omega) (by omega)]
  simp only [Result.andThen]
  congr 5 <;> omega
theorem sub_low (z : Int) (w : World) : (callFunc 76 #[.int .u64 0, .int .u64 (loN z : Int), .int .u64 0]).run Tryz.prog w = .ok (.value (.tuple #[.int .u64 (loN (-z) : Int), .int .u64 (borN z : Int)])) w := by
  have := Tryz.bits_Sub64 0 (loN z) 0 (by omega) w
  rw [lo_opp] at this
  exact this
theorem sub_high (z : Int) (w : World) : (callFunc 76 #[.int .u64 0, .int .u64 (hiN z : Int), .int .u64 (borN z : Int)]).run Tryz.prog w = .ok (.value (.tuple #[.int .u64 (hiN (-z) : Int), .int .u64 (bor2 z : Int)])) w := by
  have := Tryz.bits_Sub64 0 (hiN z) (borN z) (borN_le z) w
  rw [hi_opp] at this
  exact this
theorem add_low (a b : Int) (w : World) : (callFunc 75 #[.int .u64 (loN a : Int), .int .u64 (loN b : Int), .int .u64 0]).run Tryz.prog w = .ok (.value (.tuple #[.int .u64 (loN (a + b) : Int), .int .u64 (carN a b : Int)])) w := by
  have := Tryz.bits_Add64 (loN a) (loN b) 0 (by omega) w
  rw [lo_add] at this
  exact this
theorem add_high (a b : Int) (w : World) : (callFunc 75 #[.int .u64 (hiN a : Int), .int .u64 (hiN b : Int), .int .u64 (carN a b : Int)]).run Tryz.prog w = .ok (.value (.tuple #[.int .u64 (hiN (a + b) : Int), .int .u64 (car2 a b : Int)])) w := by
  have := Tryz.bits_Add64 (hiN a) (hiN b) (carN a b) (carN_le a b) w
  rw [hi_add] at this
  exact this

set_option maxHeartbeats 1000000 in
theorem opposite_any (z : Int) (w : World) :
    Calls Tryz.prog 27 #[(.agg #[.int .u64 ((hiN z : Int)), .int .u64 ((loN z : Int))])] w fun e w' => e = .returned (.agg #[.int .u64 ((hiN (-z) : Int)), .int .u64 ((loN (-z) : Int))]) ∧ Below w.heap.size w w' := by
  go_enter Tryz.func27, Tryz.ntmps27
  go_wp2_with (simp only [sub_low, sub_high])
  exact bodyPost_ret (v := (.agg #[.int .u64 ((hiN (-z) : Int)), .int .u64 ((loN (-z) : Int))])) (by simp [results, Tryz.results27, go_sem]) rfl ⟨rfl, below2 _ _ _⟩
set_option maxHeartbeats 1000000 in
theorem plus_any (a b : Int) (w : World) :
    Calls Tryz.prog 25 #[(.agg #[.int .u64 ((hiN a : Int)), .int .u64 ((loN a : Int))]), (.agg #[.int .u64 ((hiN b : Int)), .int .u64 ((loN b : Int))])] w fun e w' => e = .returned (.agg #[.int .u64 ((hiN (a + b) : Int)), .int .u64 ((loN (a + b) : Int))]) ∧ Below w.heap.size w w' := by
  go_enter Tryz.func25, Tryz.ntmps25
  go_wp2_with (simp only [add_low, add_high])
  exact bodyPost_ret (v := (.agg #[.int .u64 ((hiN (a + b) : Int)), .int .u64 ((loN (a + b) : Int))])) (by simp [results, Tryz.results25, go_sem]) rfl ⟨rfl, (below2 _ _ _).alloc (by simp; omega) _⟩
set_option maxHeartbeats 1000000 in
theorem negative_yes (z : Int) (w : World) (h : Fits z) (g : z < 0) :
    Calls Tryz.prog 28 #[(.agg #[.int .u64 ((hiN z : Int)), .int .u64 ((loN z : Int))])] w fun e w' => e = .returned (.bool true) ∧ Below w.heap.size w w' := by
  have h1 := top_neg h g
  clear h g
  go_enter Tryz.func28, Tryz.ntmps28
  go_wp2
  go_ret
  refine ⟨ret_bool ?_, below1 _ _⟩
  simp
  omega
set_option maxHeartbeats 1000000 in
theorem negative_no (z : Int) (w : World) (h : Fits z) (g : 0 ≤ z) :
    Calls Tryz.prog 28 #[(.agg #[.int .u64 ((hiN z : Int)), .int .u64 ((loN z : Int))])] w fun e w' => e = .returned (.bool false) ∧ Below w.heap.size w w' := by
  have h1 := top_pos h g
  clear h g
  go_enter Tryz.func28, Tryz.ntmps28
  go_wp2
  go_ret
  refine ⟨ret_bool ?_, below1 _ _⟩
  simp
  omega
set_option maxHeartbeats 1000000 in
theorem signed_no (z : Int) (w : World) :
    Calls Tryz.prog 31 #[(.agg #[.int .u64 ((hiN z : Int)), .int .u64 ((loN z : Int))]), .bool false] w fun e w' => e = .returned (.agg #[.int .u64 ((hiN z : Int)), .int .u64 ((loN z : Int))]) ∧ Below w.heap.size w w' := by
  go_enter Tryz.func31, Tryz.ntmps31
  go_wp2_with fail
  exact bodyPost_ret (v := (.agg #[.int .u64 ((hiN z : Int)), .int .u64 ((loN z : Int))])) (by simp [results, Tryz.results31, go_sem]) rfl ⟨rfl, below2 _ _ _⟩
set_option maxHeartbeats 1000000 in
theorem signed_yes (z : Int) (w : World) :
    Calls Tryz.prog 31 #[(.agg #[.int .u64 ((hiN z : Int)), .int .u64 ((loN z : Int))]), .bool true] w fun e w' => e = .returned (.agg #[.int .u64 ((hiN (-z) : Int)), .int .u64 ((loN (-z) : Int))]) ∧ Below w.heap.size w w' := by
  go_enter Tryz.func31, Tryz.ntmps31
  go_wp2_with fail
  refine (opposite_any _ _).mono ?_
  rintro e w1 ⟨rfl, hb1⟩
  obtain ⟨hc, hf⟩ := bcell hb1
  go_wp2_with fail
  exact bodyPost_ret (v := (.agg #[.int .u64 ((hiN (-z) : Int)), .int .u64 ((loN (-z) : Int))])) (by simp [results, Tryz.results31, go_sem, hc]) rfl ⟨rfl, ((below_in hb1 (below2 _ _ _)).setCell (by simp) _).setCell (by simp) _⟩
set_option maxHeartbeats 1000000 in
theorem magnitude_any (n : Int) (w : World) (h : -999999999999999 ≤ n) (g : n ≤ 999999999999999) :
    Calls Tryz.prog 30 #[.int .i64 n] w fun e w' => e = .returned (.int .u64 (n.natAbs : Int)) ∧ w = w' := by
  rcases Int.lt_or_le n 0 with hn | hn
  · obtain ⟨m, rfl⟩ : ∃ m : Nat, n = -(m : Int) := ⟨n.natAbs, by omega⟩
    rw [Int.natAbs_neg, Int.natAbs_natCast]
    go_enter Tryz.func30, Tryz.ntmps30
    go_wp2_with fail
    go_ret
    exact ⟨rfl, rfl⟩
  · obtain ⟨m, rfl⟩ : ∃ m : Nat, n = (m : Int) := ⟨n.natAbs, by omega⟩
    rw [Int.natAbs_natCast]
    go_enter Tryz.func30, Tryz.ntmps30
    go_wp2_with fail
    go_ret
    exact ⟨rfl, rfl⟩
end Go.Proofs.YtcifakhpggoebabGreatDoor
