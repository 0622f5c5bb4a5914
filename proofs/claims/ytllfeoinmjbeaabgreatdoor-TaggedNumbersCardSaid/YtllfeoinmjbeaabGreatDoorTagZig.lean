/- Numbers for integers: what Unzigzag and the reference's Unzigzag return. No condition but the number's size. -/
import Derived.Test.YtllfeoinmjbeaabGreatDoorTagNum
namespace Go.Proofs.YtllfeoinmjbeaabGreatDoor.TagN
open Go Go.RowKit Go.PlainAid

/-- the integer for which a number stands -/
def unz (n : Int) : Int := if n % 2 = 0 then n / 2 else -((n + 1) / 2)
theorem unz_even {n : Int} (h : n % 2 = 0) : unz n = n / 2 := if_pos h
theorem unz_odd {n : Int} (h : ¬ n % 2 = 0) : unz n = -((n + 1) / 2) := if_neg h
theorem unz_pos (n : Int) : unz (2 * n) = n := by rw [unz_even (by omega)]; omega
theorem unz_neg (n : Int) : unz (-2 * n - 1) = n := by rw [unz_odd (by omega)]; omega

/-- what can be written -/
structure Wide (n : Int) : Prop where
  lo : 0 ≤ n
  hi : n ≤ 4611686018427387903
theorem odd_div {n : Int} (h : 0 ≤ n) : (-(n + 1)).tdiv 2 = -((n + 1) / 2) := by
  rw [Int.neg_tdiv, Int.tdiv_eq_ediv_of_nonneg (by omega)]

set_option maxRecDepth 100000 in
set_option maxHeartbeats 2000000 in
theorem unzig_any (n : Int) (hn : Wide n) (w : World) :
    Calls Tryz.prog 16 #[.int .i64 n] w fun e w' => e = .returned (.int .i64 (unz n)) ∧ w' = w := by
  have h0 := hn.lo
  have t1 : n.tmod 2 = n % 2 := Int.tmod_eq_emod_of_nonneg h0
  have t2 : n.tdiv 2 = n / 2 := Int.tdiv_eq_ediv_of_nonneg h0
  have t3 := odd_div h0
  have t4 : IntKind.i64.wrap (n + 1) = n + 1 := IntWalk.i64_in _ (by have := hn.hi; omega)
  have t5 : IntKind.i64.wrap (-(n + 1)) = -(n + 1) := IntWalk.i64_in _ (by have := hn.hi; omega)
  have t6 : IntKind.i64.wrap (-((n + 1) / 2)) = -((n + 1) / 2) := IntWalk.i64_in _ (by have := hn.hi; omega)
  have t7 : IntKind.i64.wrap (n / 2) = n / 2 := IntWalk.i64_in _ (by have := hn.hi; omega)
  have t8 : IntKind.i64.wrap (n % 2) = n % 2 := IntWalk.i64_in _ (by omega)
  by_cases h : n % 2 = 0
  · have E := hide (unz_even h)
    have q : (n % 2 == 0) = true := by simp [h]
    go_enter Tryz.func16, Tryz.ntmps16
    go_wp2_with fail
    go_returns
    exact ⟨by rw [E.out]; rfl, rfl⟩
  · have E := hide (unz_odd h)
    have q : (n % 2 == 0) = false := by simp [h]
    go_enter Tryz.func16, Tryz.ntmps16
    go_wp2_with fail
    go_returns
    exact ⟨by rw [E.out]; rfl, rfl⟩
set_option maxRecDepth 100000 in
set_option maxHeartbeats 2000000 in
theorem refUnzig_any (n : Int) (hn : Wide n) (w : World) :
    Calls Tryz.prog 10 #[.int .i64 n] w fun e w' => e = .returned (.int .i64 (unz n)) ∧ w' = w := by
  have h0 := hn.lo
  have t1 : n.tmod 2 = n % 2 := Int.tmod_eq_emod_of_nonneg h0
  have t2 : n.tdiv 2 = n / 2 := Int.tdiv_eq_ediv_of_nonneg h0
  have t3 := odd_div h0
  have t4 : IntKind.i64.wrap (n + 1) = n + 1 := IntWalk.i64_in _ (by have := hn.hi; omega)
  have t5 : IntKind.i64.wrap (-(n + 1)) = -(n + 1) := IntWalk.i64_in _ (by have := hn.hi; omega)
  have t6 : IntKind.i64.wrap (-((n + 1) / 2)) = -((n + 1) / 2) := IntWalk.i64_in _ (by have := hn.hi; omega)
  have t7 : IntKind.i64.wrap (n / 2) = n / 2 := IntWalk.i64_in _ (by have := hn.hi; omega)
  have t8 : IntKind.i64.wrap (n % 2) = n % 2 := IntWalk.i64_in _ (by omega)
  by_cases h : n % 2 = 0
  · have E := hide (unz_even h)
    have q : (n % 2 == 0) = true := by simp [h]
    go_enter Tryz.func10, Tryz.ntmps10
    go_wp2_with fail
    go_returns
    exact ⟨by rw [E.out]; rfl, rfl⟩
  · have E := hide (unz_odd h)
    have q : (n % 2 == 0) = false := by simp [h]
    go_enter Tryz.func10, Tryz.ntmps10
    go_wp2_with fail
    go_returns
    exact ⟨by rw [E.out]; rfl, rfl⟩
end Go.Proofs.YtllfeoinmjbeaabGreatDoor.TagN
