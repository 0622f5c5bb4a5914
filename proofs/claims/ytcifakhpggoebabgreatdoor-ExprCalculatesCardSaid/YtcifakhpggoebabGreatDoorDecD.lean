/- What scaled, Compare, Add, Sub and Mul return. Condition: the table of the powers of ten holds what the program's text lays. -/
import Derived.Test.YtcifakhpggoebabGreatDoorDecC
namespace Go.Proofs.YtcifakhpggoebabGreatDoor
open Go Go.RowKit Go.PlainAid

theorem magnitude_q (n : Int) (w : World) (h : -999999999999999 ≤ n) (g : n ≤ 999999999999999) :
    Calls Tryz.prog 30 #[.int .i64 n] w fun e w' => e = .returned (.int .u64 (n.natAbs : Int)) ∧ w' = w :=
  (magnitude_any n w h g).mono fun _ _ ⟨a, b⟩ => ⟨a, b.symm⟩
theorem mul_words (x y : Nat) (w : World) (hx : x < 18446744073709551616) (hy : y < 18446744073709551616) (h : x * y < 340282366920938463463374607431768211456) :
    Calls Tryz.prog 74 #[.int .u64 x, .int .u64 y] w fun e w' => e = .returned (.tuple #[.int .u64 (hiN ((x * y : Nat) : Int) : Int), .int .u64 (loN ((x * y : Nat) : Int) : Int)]) ∧ w' = w := by
  have := Tryz.bits_Mul64 x y hx hy w
  rw [hi_mul x y h, lo_mul x y h] at this
  exact this
theorem mul_le {x y a b : Nat} (h : x ≤ a) (g : y ≤ b) : x * y ≤ a * b := Nat.mul_le_mul h g
theorem ten_le {k : Nat} (h : k ≤ 12) : 10 ^ k ≤ 1000000000000 := Nat.pow_le_pow_right (n := 10) (by decide) h
theorem sca_nat (n s : Int) (k : Nat) : sca n s (s + k) = n * ((10 ^ k : Nat) : Int) := by
  unfold sca ten
  rw [show (s + (k : Int) - s).toNat = k by omega]
  push_cast
  rfl
theorem sca_pos {n s : Int} {k : Nat} (h : 0 ≤ n) : ((n.natAbs * 10 ^ k : Nat) : Int) = sca n s (s + k) := by
  rw [sca_nat, Int.natCast_mul, Int.natAbs_of_nonneg h]
theorem sca_neg {n s : Int} {k : Nat} (h : n < 0) : -((n.natAbs * 10 ^ k : Nat) : Int) = sca n s (s + k) := by
  rw [sca_nat, Int.natCast_mul, show (n.natAbs : Int) = -n by omega, Int.neg_mul, Int.neg_neg]

set_option maxHeartbeats 2000000 in
theorem scaled_any (n s : Int) (k : Nat) (w : World) (hP : Pows w) (h : okN n s) (hk : k ≤ 12) :
    Calls Tryz.prog 24 #[(.agg #[.int .i64 (n), .int .i64 (s)]), .int .i64 (s + k)] w fun e w' => e = .returned (.agg #[.int .u64 ((hiN (sca n s (s + k)) : Int)), .int .u64 ((loN (sca n s (s + k)) : Int))]) ∧ Below w.heap.size w w' := by
  obtain ⟨h1, h2, h3, h4⟩ := h
  have hlt := hP.lt
  have hcell := hP.at_ (pow_at hk)
  have hten := ten_le hk
  have hten' : 10 ^ k < 18446744073709551616 := by omega
  have hab : n.natAbs < 18446744073709551616 := by omega
  have hmul := mul_le (x := n.natAbs) (a := 999999999999999) (by omega) hten
  have hmul' : n.natAbs * 10 ^ k < 340282366920938463463374607431768211456 := by omega
  have hk0 : (0 : Int) ≤ (k : Int) := by omega
  have hk1 : (k : Int) < 13 := by omega
  have hk2 : ((k : Int)).toNat = k := by omega
  have hw : IntKind.i64.wrap (s + (k : Int) - s) = (k : Int) := IntWalk.i64_in _ (by omega) |>.trans (by omega)
  have E : Hid (∀ p : Prop, p) ∨ True := .inr trivial
  clear hP hmul hten E
  generalize hq : 10 ^ k = q at *
  have Q := hide hq
  clear hq
  rcases Int.lt_or_le n 0 with hn | hn
  · have hs : sca n s (s + k) = -((n.natAbs * q : Nat) : Int) := by rw [← Q.out]; exact (sca_neg hn).symm
    rw [hs]
    clear hs
    generalize hp : n.natAbs = p at *
    have HP := hide hp
    clear hp
    go_enter Tryz.func24, Tryz.ntmps24
    go_wp2_with fail
    go_quiet ((first | (go_at_call 30; exact Calls.quiet_of_same (HP.out ▸ magnitude_q n _ h1 h2)) | (go_at_call 74; exact Calls.quiet_of_same (mul_words _ _ _ hab hten' hmul'))))
    clear hcell hw hk2
    go_wp2_with fail
    refine (signed_yes _ _).mono ?_
    rintro e w1 ⟨rfl, hb1⟩
    obtain ⟨hc1, hf1⟩ := bcell hb1
    have r0 : w1.cell? ⟨w.heap.size + 1, 0, none⟩ = some (.int .u64 0) := by rw [hc1 _ _ (by simp)]; simp [go_sem]
    have r1 : w1.cell? ⟨w.heap.size + 1, 1, none⟩ = some (.int .u64 0) := by rw [hc1 _ _ (by simp)]; simp [go_sem]
    go_wp2_with fail
    exact bodyPost_ret (v := (.agg #[.int .u64 ((hiN (-((p * q : Nat) : Int)) : Int)), .int .u64 ((loN (-((p * q : Nat) : Int)) : Int))])) (by simp [results, Tryz.results24, go_sem, r0, r1]) rfl ⟨rfl, by repeat (first | (refine below_set ?_ ?hsz _; case hsz => (first | omega | (simp; done) | (simp; omega) | (have hs0 := hb.size; simp at hs0 ⊢; omega) | (have hs1 := hb1.size; simp at hs1 ⊢; omega) | (have hs1 := hb1.size; have hs2 := hb2.size; simp at hs1 hs2 ⊢; omega))) | exact Below.refl _ _ | refine below_alloc ?_ _ | refine below_drew ?_ | refine below_drewn ?_ _ | refine below_step ?_ hb | refine below_step ?_ hb0 | refine below_step ?_ hb1 | refine below_step ?_ hb2 | refine below_step ?_ hb3 | refine below_step ?_ hb4 | refine below_step ?_ hb5 | refine below_step ?_ hb6 | refine below_step ?_ hb7)⟩
  · have hs : sca n s (s + k) = ((n.natAbs * q : Nat) : Int) := by rw [← Q.out]; exact (sca_pos hn).symm
    rw [hs]
    clear hs
    have hd : decide (n < 0) = false := by simpa using hn
    generalize hp : n.natAbs = p at *
    have HP := hide hp
    clear hp
    go_enter Tryz.func24, Tryz.ntmps24
    go_wp2_with fail
    go_quiet ((first | (go_at_call 30; exact Calls.quiet_of_same (HP.out ▸ magnitude_q n _ h1 h2)) | (go_at_call 74; exact Calls.quiet_of_same (mul_words _ _ _ hab hten' hmul'))))
    clear hcell hw hk2
    go_wp2_with fail
    refine (signed_no _ _).mono ?_
    rintro e w1 ⟨rfl, hb1⟩
    obtain ⟨hc1, hf1⟩ := bcell hb1
    have r0 : w1.cell? ⟨w.heap.size + 1, 0, none⟩ = some (.int .u64 0) := by rw [hc1 _ _ (by simp)]; simp [go_sem]
    have r1 : w1.cell? ⟨w.heap.size + 1, 1, none⟩ = some (.int .u64 0) := by rw [hc1 _ _ (by simp)]; simp [go_sem]
    go_wp2_with fail
    exact bodyPost_ret (v := (.agg #[.int .u64 ((hiN (((p * q : Nat) : Int)) : Int)), .int .u64 ((loN (((p * q : Nat) : Int)) : Int))])) (by simp [results, Tryz.results24, go_sem, r0, r1]) rfl ⟨rfl, by repeat (first | (refine below_set ?_ ?hsz _; case hsz => (first | omega | (simp; done) | (simp; omega) | (have hs0 := hb.size; simp at hs0 ⊢; omega) | (have hs1 := hb1.size; simp at hs1 ⊢; omega) | (have hs1 := hb1.size; have hs2 := hb2.size; simp at hs1 hs2 ⊢; omega))) | exact Below.refl _ _ | refine below_alloc ?_ _ | refine below_drew ?_ | refine below_drewn ?_ _ | refine below_step ?_ hb | refine below_step ?_ hb0 | refine below_step ?_ hb1 | refine below_step ?_ hb2 | refine below_step ?_ hb3 | refine below_step ?_ hb4 | refine below_step ?_ hb5 | refine below_step ?_ hb6 | refine below_step ?_ hb7)⟩

theorem scaled_at (n s m : Int) (w : World) (hP : Pows w) (h : okN n s) (hs : s ≤ m) (hm : m ≤ 12) :
    Calls Tryz.prog 24 #[(.agg #[.int .i64 (n), .int .i64 (s)]), .int .i64 m] w fun e w' => e = .returned (.agg #[.int .u64 ((hiN (sca n s m) : Int)), .int .u64 ((loN (sca n s m) : Int))]) ∧ Below w.heap.size w w' := by
  obtain ⟨k, rfl⟩ : ∃ k : Nat, m = s + k := ⟨(m - s).toNat, by omega⟩
  exact scaled_any n s k w hP h (by have := h.2.2.1; omega)
/-- what Add and Sub come to -/
def AddPost (q a sa b sb : Int) (w : World) (e : Ending) (w' : World) : Prop := ∃ n t x : Int, e = .returned (.tuple #[(.agg #[.int .i64 (n), .int .i64 (t)]), .int .i64 x]) ∧ AddOut q a sa b sb n t x ∧ Below w.heap.size w w'
end Go.Proofs.YtcifakhpggoebabGreatDoor
