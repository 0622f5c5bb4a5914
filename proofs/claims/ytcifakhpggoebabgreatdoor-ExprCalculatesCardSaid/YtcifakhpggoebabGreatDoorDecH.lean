/- What Mul returns. Condition: the table of the powers of ten holds what the program's text lays. -/
import Derived.Test.YtcifakhpggoebabGreatDoorDecD
namespace Go.Proofs.YtcifakhpggoebabGreatDoor
open Go Go.RowKit Go.PlainAid

/-- what Mul comes to -/
def MulPost (a sa b sb : Int) (w : World) (e : Ending) (w' : World) : Prop := ∃ n t x : Int, e = .returned (.tuple #[(.agg #[.int .i64 (n), .int .i64 (t)]), .int .i64 x]) ∧ MulOut a sa b sb n t x ∧ Below w.heap.size w w'
set_option maxHeartbeats 1000000 in
theorem scale_yes (s : Int) (w : World) (h : 0 ≤ s) (g : s ≤ 12) : Calls Tryz.prog 22 #[.int .i64 s] w fun e w' => e = .returned (.bool true) ∧ w = w' := by
  go_enter Tryz.func22, Tryz.ntmps22
  go_wp2
  go_ret
  exact ⟨rfl, rfl⟩
set_option maxHeartbeats 1000000 in
theorem scale_no (s : Int) (w : World) (h : ¬ (0 ≤ s ∧ s ≤ 12)) : Calls Tryz.prog 22 #[.int .i64 s] w fun e w' => e = .returned (.bool false) ∧ w = w' := by
  by_cases h0 : 0 ≤ s
  · have h1 : 12 < s := by omega
    clear h
    go_enter Tryz.func22, Tryz.ntmps22
    go_wp2
    go_ret
    exact ⟨ret_bool (by simp; omega), rfl⟩
  · clear h
    go_enter Tryz.func22, Tryz.ntmps22
    go_wp2
    go_ret
    exact ⟨rfl, rfl⟩

theorem prod_pos {a b : Int} (h : decide (a < 0) = decide (b < 0)) : ((a.natAbs * b.natAbs : Nat) : Int) = a * b := by
  rw [Int.natCast_mul]
  by_cases ha : a < 0
  · have hb : b < 0 := by simpa [ha] using h
    rw [show (a.natAbs : Int) = -a by omega, show (b.natAbs : Int) = -b by omega, Int.neg_mul_neg]
  · have hb : ¬ b < 0 := by simpa [ha] using h
    rw [show (a.natAbs : Int) = a by omega, show (b.natAbs : Int) = b by omega]
theorem prod_neg {a b : Int} (h : decide (a < 0) ≠ decide (b < 0)) : -((a.natAbs * b.natAbs : Nat) : Int) = a * b := by
  rw [Int.natCast_mul]
  by_cases ha : a < 0
  · have hb : ¬ b < 0 := by intro hb; exact h (by simp [ha, hb])
    rw [show (a.natAbs : Int) = -a by omega, show (b.natAbs : Int) = b by omega, Int.neg_mul, Int.neg_neg]
  · have hb : b < 0 := by
      by_cases hb : b < 0
      · exact hb
      · exact absurd (by simp [ha, hb]) h
    rw [show (a.natAbs : Int) = a by omega, show (b.natAbs : Int) = -b by omega, Int.mul_neg, Int.neg_neg]

set_option maxHeartbeats 4000000 in
theorem mul_pp (a sa b sb : Int) (w : World) (h : Both a sa b sb) (hs : sa + sb ≤ 12) (hA : decide (a < 0) = false) (hB : decide (b < 0) = false) (hz : ((a.natAbs * b.natAbs : Nat) : Int) = a * b) :
    Calls Tryz.prog 57 #[(.agg #[.int .i64 (a), .int .i64 (sa)]), (.agg #[.int .i64 (b), .int .i64 (sb)])] w (MulPost a sa b sb w) := by
  have b1 := h.1.2.2.2
  have b2 := h.2.2.2.2
  have b3 := h.1.2.2.1
  have b4 := h.2.2.2.1
  have c1 := h.1.1
  have c2 := h.1.2.1
  have c3 := h.2.1
  have c4 := h.2.2.1
  have hab : a.natAbs < 18446744073709551616 := by omega
  have hbb : b.natAbs < 18446744073709551616 := by omega
  have hmul := mul_le (x := a.natAbs) (y := b.natAbs) (a := 999999999999999) (b := 999999999999999) (by omega) (by omega)
  have hmul' : a.natAbs * b.natAbs < 340282366920938463463374607431768211456 := by omega
  have hfit : Fits (((a.natAbs * b.natAbs : Nat) : Int)) := by
    unfold Fits
    generalize a.natAbs * b.natAbs = m at *
    omega
  have H := hide h
  have HZ := hide hz
  clear hmul h hz
  have QA : Hid (∀ W, Calls Tryz.prog 30 #[.int .i64 a] W fun e w' => e = .returned (.int .u64 (a.natAbs : Int)) ∧ w' = W) := hide fun W => magnitude_q a W c1 c2
  have QB : Hid (∀ W, Calls Tryz.prog 30 #[.int .i64 b] W fun e w' => e = .returned (.int .u64 (b.natAbs : Int)) ∧ w' = W) := hide fun W => magnitude_q b W c3 c4
  generalize hp : a.natAbs = p at *
  have HP := hide hp
  clear hp
  generalize hq : b.natAbs = q at *
  have HQ := hide hq
  clear hq
  go_enter Tryz.func57, Tryz.ntmps57
  go_wp2_with fail
  refine (both_ok _ _ _ _ _ H.out).mono ?_
  rintro e w1 ⟨rfl, hb1⟩
  obtain ⟨hc1, hf1⟩ := bcell hb1
  have z1 : w.heap.size + 1 + 1 < w1.heap.size := by have := hb1.size; simp at this; omega
  have r0w : w1.cell? ⟨w.heap.size + 1 + 1, 0, none⟩ = some (.int .i64 0) := by rw [hc1 _ _ (by simp)]; simp [go_sem]
  have r1w : w1.cell? ⟨w.heap.size + 1 + 1, 1, none⟩ = some (.int .i64 0) := by rw [hc1 _ _ (by simp)]; simp [go_sem]
  have f0w : w1.frozen? ⟨w.heap.size + 1 + 1, 0, none⟩ = false := by rw [hf1 _ _ (by simp)]; simp [go_sem]
  have f1w : w1.frozen? ⟨w.heap.size + 1 + 1, 1, none⟩ = false := by rw [hf1 _ _ (by simp)]; simp [go_sem]
  have a0w : w1.cell? ⟨w.heap.size, 0, none⟩ = some (.int .i64 a) := by rw [hc1 _ _ (by simp; omega)]; simp [go_sem]
  have b0w : w1.cell? ⟨w.heap.size + 1, 0, none⟩ = some (.int .i64 b) := by rw [hc1 _ _ (by simp)]; simp [go_sem]
  go_wp2_with fail
  refine (scale_yes _ _ (by omega) hs).mono ?_
  rintro e w' ⟨rfl, rfl⟩
  go_wp2_with fail
  go_quiet ((first | (go_at_call 30; with_reducible exact Calls.quiet_of_same (QA.out _)) | (go_at_call 30; with_reducible exact Calls.quiet_of_same (QB.out _)) | (go_at_call 74; exact Calls.quiet_of_same (mul_words _ _ _ hab hbb hmul'))))
  go_wp2_with fail
  refine (signed_no _ _).mono ?_
  rintro e w2 ⟨rfl, hb2⟩
  go_wp2_with fail
  refine (number_any _ _ _ hfit).mono ?_
  rintro e w5 ⟨n, t, x, rfl, hN, hb5⟩
  have HN := hide hN
  clear hN
  have hW : Below w1.heap.size w1 w5 := by repeat (first | (refine below_set ?_ ?hsz _; case hsz => (first | omega | (simp; done) | (simp; omega) | (have hs0 := hb.size; simp at hs0 ⊢; omega) | (have hs1 := hb1.size; simp at hs1 ⊢; omega) | (have hs1 := hb1.size; have hs2 := hb2.size; simp at hs1 hs2 ⊢; omega))) | exact Below.refl _ _ | refine below_alloc ?_ _ | refine below_drew ?_ | refine below_drewn ?_ _ | refine below_step ?_ hb | refine below_step ?_ hb0 | refine below_step ?_ hb1 | refine below_step ?_ hb2 | refine below_step ?_ hb3 | refine below_step ?_ hb4 | refine below_step ?_ hb5 | refine below_step ?_ hb6 | refine below_step ?_ hb7)
  have r0 := (hW.cell (p := ⟨w.heap.size + 1 + 1, 0, none⟩) z1).trans r0w
  have r1 := (hW.cell (p := ⟨w.heap.size + 1 + 1, 1, none⟩) z1).trans r1w
  have f0 := (hW.frozen (p := ⟨w.heap.size + 1 + 1, 0, none⟩) z1).trans f0w
  have f1 := (hW.frozen (p := ⟨w.heap.size + 1 + 1, 1, none⟩) z1).trans f1w
  go_wp2_with fail
  exact bodyPost_ret (v := .tuple #[(.agg #[.int .i64 (n), .int .i64 (t)]), .int .i64 x]) (by simp [results, Tryz.results57, go_sem, r0, r1]) rfl ⟨n, t, x, rfl, .inl ⟨H.out, hs, by rw [← HZ.out]; exact HN.out⟩, by repeat (first | (refine below_set ?_ ?hsz _; case hsz => (first | omega | (simp; done) | (simp; omega) | (have hs0 := hb.size; simp at hs0 ⊢; omega) | (have hs1 := hb1.size; simp at hs1 ⊢; omega) | (have hs1 := hb1.size; have hs2 := hb2.size; simp at hs1 hs2 ⊢; omega))) | exact Below.refl _ _ | refine below_alloc ?_ _ | refine below_drew ?_ | refine below_drewn ?_ _ | refine below_step ?_ hb | refine below_step ?_ hb0 | refine below_step ?_ hb1 | refine below_step ?_ hb2 | refine below_step ?_ hb3 | refine below_step ?_ hb4 | refine below_step ?_ hb5 | refine below_step ?_ hb6 | refine below_step ?_ hb7)⟩

set_option maxHeartbeats 4000000 in
theorem mul_nn (a sa b sb : Int) (w : World) (h : Both a sa b sb) (hs : sa + sb ≤ 12) (hA : decide (a < 0) = true) (hB : decide (b < 0) = true) (hz : ((a.natAbs * b.natAbs : Nat) : Int) = a * b) :
    Calls Tryz.prog 57 #[(.agg #[.int .i64 (a), .int .i64 (sa)]), (.agg #[.int .i64 (b), .int .i64 (sb)])] w (MulPost a sa b sb w) := by
  have b1 := h.1.2.2.2
  have b2 := h.2.2.2.2
  have b3 := h.1.2.2.1
  have b4 := h.2.2.2.1
  have c1 := h.1.1
  have c2 := h.1.2.1
  have c3 := h.2.1
  have c4 := h.2.2.1
  have hab : a.natAbs < 18446744073709551616 := by omega
  have hbb : b.natAbs < 18446744073709551616 := by omega
  have hmul := mul_le (x := a.natAbs) (y := b.natAbs) (a := 999999999999999) (b := 999999999999999) (by omega) (by omega)
  have hmul' : a.natAbs * b.natAbs < 340282366920938463463374607431768211456 := by omega
  have hfit : Fits (((a.natAbs * b.natAbs : Nat) : Int)) := by
    unfold Fits
    generalize a.natAbs * b.natAbs = m at *
    omega
  have H := hide h
  have HZ := hide hz
  clear hmul h hz
  have QA : Hid (∀ W, Calls Tryz.prog 30 #[.int .i64 a] W fun e w' => e = .returned (.int .u64 (a.natAbs : Int)) ∧ w' = W) := hide fun W => magnitude_q a W c1 c2
  have QB : Hid (∀ W, Calls Tryz.prog 30 #[.int .i64 b] W fun e w' => e = .returned (.int .u64 (b.natAbs : Int)) ∧ w' = W) := hide fun W => magnitude_q b W c3 c4
  generalize hp : a.natAbs = p at *
  have HP := hide hp
  clear hp
  generalize hq : b.natAbs = q at *
  have HQ := hide hq
  clear hq
  go_enter Tryz.func57, Tryz.ntmps57
  go_wp2_with fail
  refine (both_ok _ _ _ _ _ H.out).mono ?_
  rintro e w1 ⟨rfl, hb1⟩
  obtain ⟨hc1, hf1⟩ := bcell hb1
  have z1 : w.heap.size + 1 + 1 < w1.heap.size := by have := hb1.size; simp at this; omega
  have r0w : w1.cell? ⟨w.heap.size + 1 + 1, 0, none⟩ = some (.int .i64 0) := by rw [hc1 _ _ (by simp)]; simp [go_sem]
  have r1w : w1.cell? ⟨w.heap.size + 1 + 1, 1, none⟩ = some (.int .i64 0) := by rw [hc1 _ _ (by simp)]; simp [go_sem]
  have f0w : w1.frozen? ⟨w.heap.size + 1 + 1, 0, none⟩ = false := by rw [hf1 _ _ (by simp)]; simp [go_sem]
  have f1w : w1.frozen? ⟨w.heap.size + 1 + 1, 1, none⟩ = false := by rw [hf1 _ _ (by simp)]; simp [go_sem]
  have a0w : w1.cell? ⟨w.heap.size, 0, none⟩ = some (.int .i64 a) := by rw [hc1 _ _ (by simp; omega)]; simp [go_sem]
  have b0w : w1.cell? ⟨w.heap.size + 1, 0, none⟩ = some (.int .i64 b) := by rw [hc1 _ _ (by simp)]; simp [go_sem]
  go_wp2_with fail
  refine (scale_yes _ _ (by omega) hs).mono ?_
  rintro e w' ⟨rfl, rfl⟩
  go_wp2_with fail
  go_quiet ((first | (go_at_call 30; with_reducible exact Calls.quiet_of_same (QA.out _)) | (go_at_call 30; with_reducible exact Calls.quiet_of_same (QB.out _)) | (go_at_call 74; exact Calls.quiet_of_same (mul_words _ _ _ hab hbb hmul'))))
  go_wp2_with fail
  refine (signed_no _ _).mono ?_
  rintro e w2 ⟨rfl, hb2⟩
  go_wp2_with fail
  refine (number_any _ _ _ hfit).mono ?_
  rintro e w5 ⟨n, t, x, rfl, hN, hb5⟩
  have HN := hide hN
  clear hN
  have hW : Below w1.heap.size w1 w5 := by repeat (first | (refine below_set ?_ ?hsz _; case hsz => (first | omega | (simp; done) | (simp; omega) | (have hs0 := hb.size; simp at hs0 ⊢; omega) | (have hs1 := hb1.size; simp at hs1 ⊢; omega) | (have hs1 := hb1.size; have hs2 := hb2.size; simp at hs1 hs2 ⊢; omega))) | exact Below.refl _ _ | refine below_alloc ?_ _ | refine below_drew ?_ | refine below_drewn ?_ _ | refine below_step ?_ hb | refine below_step ?_ hb0 | refine below_step ?_ hb1 | refine below_step ?_ hb2 | refine below_step ?_ hb3 | refine below_step ?_ hb4 | refine below_step ?_ hb5 | refine below_step ?_ hb6 | refine below_step ?_ hb7)
  have r0 := (hW.cell (p := ⟨w.heap.size + 1 + 1, 0, none⟩) z1).trans r0w
  have r1 := (hW.cell (p := ⟨w.heap.size + 1 + 1, 1, none⟩) z1).trans r1w
  have f0 := (hW.frozen (p := ⟨w.heap.size + 1 + 1, 0, none⟩) z1).trans f0w
  have f1 := (hW.frozen (p := ⟨w.heap.size + 1 + 1, 1, none⟩) z1).trans f1w
  go_wp2_with fail
  exact bodyPost_ret (v := .tuple #[(.agg #[.int .i64 (n), .int .i64 (t)]), .int .i64 x]) (by simp [results, Tryz.results57, go_sem, r0, r1]) rfl ⟨n, t, x, rfl, .inl ⟨H.out, hs, by rw [← HZ.out]; exact HN.out⟩, by repeat (first | (refine below_set ?_ ?hsz _; case hsz => (first | omega | (simp; done) | (simp; omega) | (have hs0 := hb.size; simp at hs0 ⊢; omega) | (have hs1 := hb1.size; simp at hs1 ⊢; omega) | (have hs1 := hb1.size; have hs2 := hb2.size; simp at hs1 hs2 ⊢; omega))) | exact Below.refl _ _ | refine below_alloc ?_ _ | refine below_drew ?_ | refine below_drewn ?_ _ | refine below_step ?_ hb | refine below_step ?_ hb0 | refine below_step ?_ hb1 | refine below_step ?_ hb2 | refine below_step ?_ hb3 | refine below_step ?_ hb4 | refine below_step ?_ hb5 | refine below_step ?_ hb6 | refine below_step ?_ hb7)⟩

set_option maxHeartbeats 4000000 in
theorem mul_np (a sa b sb : Int) (w : World) (h : Both a sa b sb) (hs : sa + sb ≤ 12) (hA : decide (a < 0) = true) (hB : decide (b < 0) = false) (hz : -((a.natAbs * b.natAbs : Nat) : Int) = a * b) :
    Calls Tryz.prog 57 #[(.agg #[.int .i64 (a), .int .i64 (sa)]), (.agg #[.int .i64 (b), .int .i64 (sb)])] w (MulPost a sa b sb w) := by
  have b1 := h.1.2.2.2
  have b2 := h.2.2.2.2
  have b3 := h.1.2.2.1
  have b4 := h.2.2.2.1
  have c1 := h.1.1
  have c2 := h.1.2.1
  have c3 := h.2.1
  have c4 := h.2.2.1
  have hab : a.natAbs < 18446744073709551616 := by omega
  have hbb : b.natAbs < 18446744073709551616 := by omega
  have hmul := mul_le (x := a.natAbs) (y := b.natAbs) (a := 999999999999999) (b := 999999999999999) (by omega) (by omega)
  have hmul' : a.natAbs * b.natAbs < 340282366920938463463374607431768211456 := by omega
  have hfit : Fits (-((a.natAbs * b.natAbs : Nat) : Int)) := by
    unfold Fits
    generalize a.natAbs * b.natAbs = m at *
    omega
  have H := hide h
  have HZ := hide hz
  clear hmul h hz
  have QA : Hid (∀ W, Calls Tryz.prog 30 #[.int .i64 a] W fun e w' => e = .returned (.int .u64 (a.natAbs : Int)) ∧ w' = W) := hide fun W => magnitude_q a W c1 c2
  have QB : Hid (∀ W, Calls Tryz.prog 30 #[.int .i64 b] W fun e w' => e = .returned (.int .u64 (b.natAbs : Int)) ∧ w' = W) := hide fun W => magnitude_q b W c3 c4
  generalize hp : a.natAbs = p at *
  have HP := hide hp
  clear hp
  generalize hq : b.natAbs = q at *
  have HQ := hide hq
  clear hq
  go_enter Tryz.func57, Tryz.ntmps57
  go_wp2_with fail
  refine (both_ok _ _ _ _ _ H.out).mono ?_
  rintro e w1 ⟨rfl, hb1⟩
  obtain ⟨hc1, hf1⟩ := bcell hb1
  have z1 : w.heap.size + 1 + 1 < w1.heap.size := by have := hb1.size; simp at this; omega
  have r0w : w1.cell? ⟨w.heap.size + 1 + 1, 0, none⟩ = some (.int .i64 0) := by rw [hc1 _ _ (by simp)]; simp [go_sem]
  have r1w : w1.cell? ⟨w.heap.size + 1 + 1, 1, none⟩ = some (.int .i64 0) := by rw [hc1 _ _ (by simp)]; simp [go_sem]
  have f0w : w1.frozen? ⟨w.heap.size + 1 + 1, 0, none⟩ = false := by rw [hf1 _ _ (by simp)]; simp [go_sem]
  have f1w : w1.frozen? ⟨w.heap.size + 1 + 1, 1, none⟩ = false := by rw [hf1 _ _ (by simp)]; simp [go_sem]
  have a0w : w1.cell? ⟨w.heap.size, 0, none⟩ = some (.int .i64 a) := by rw [hc1 _ _ (by simp; omega)]; simp [go_sem]
  have b0w : w1.cell? ⟨w.heap.size + 1, 0, none⟩ = some (.int .i64 b) := by rw [hc1 _ _ (by simp)]; simp [go_sem]
  go_wp2_with fail
  refine (scale_yes _ _ (by omega) hs).mono ?_
  rintro e w' ⟨rfl, rfl⟩
  go_wp2_with fail
  go_quiet ((first | (go_at_call 30; with_reducible exact Calls.quiet_of_same (QA.out _)) | (go_at_call 30; with_reducible exact Calls.quiet_of_same (QB.out _)) | (go_at_call 74; exact Calls.quiet_of_same (mul_words _ _ _ hab hbb hmul'))))
  go_wp2_with fail
  refine (signed_yes _ _).mono ?_
  rintro e w2 ⟨rfl, hb2⟩
  go_wp2_with fail
  refine (number_any _ _ _ hfit).mono ?_
  rintro e w5 ⟨n, t, x, rfl, hN, hb5⟩
  have HN := hide hN
  clear hN
  have hW : Below w1.heap.size w1 w5 := by repeat (first | (refine below_set ?_ ?hsz _; case hsz => (first | omega | (simp; done) | (simp; omega) | (have hs0 := hb.size; simp at hs0 ⊢; omega) | (have hs1 := hb1.size; simp at hs1 ⊢; omega) | (have hs1 := hb1.size; have hs2 := hb2.size; simp at hs1 hs2 ⊢; omega))) | exact Below.refl _ _ | refine below_alloc ?_ _ | refine below_drew ?_ | refine below_drewn ?_ _ | refine below_step ?_ hb | refine below_step ?_ hb0 | refine below_step ?_ hb1 | refine below_step ?_ hb2 | refine below_step ?_ hb3 | refine below_step ?_ hb4 | refine below_step ?_ hb5 | refine below_step ?_ hb6 | refine below_step ?_ hb7)
  have r0 := (hW.cell (p := ⟨w.heap.size + 1 + 1, 0, none⟩) z1).trans r0w
  have r1 := (hW.cell (p := ⟨w.heap.size + 1 + 1, 1, none⟩) z1).trans r1w
  have f0 := (hW.frozen (p := ⟨w.heap.size + 1 + 1, 0, none⟩) z1).trans f0w
  have f1 := (hW.frozen (p := ⟨w.heap.size + 1 + 1, 1, none⟩) z1).trans f1w
  go_wp2_with fail
  exact bodyPost_ret (v := .tuple #[(.agg #[.int .i64 (n), .int .i64 (t)]), .int .i64 x]) (by simp [results, Tryz.results57, go_sem, r0, r1]) rfl ⟨n, t, x, rfl, .inl ⟨H.out, hs, by rw [← HZ.out]; exact HN.out⟩, by repeat (first | (refine below_set ?_ ?hsz _; case hsz => (first | omega | (simp; done) | (simp; omega) | (have hs0 := hb.size; simp at hs0 ⊢; omega) | (have hs1 := hb1.size; simp at hs1 ⊢; omega) | (have hs1 := hb1.size; have hs2 := hb2.size; simp at hs1 hs2 ⊢; omega))) | exact Below.refl _ _ | refine below_alloc ?_ _ | refine below_drew ?_ | refine below_drewn ?_ _ | refine below_step ?_ hb | refine below_step ?_ hb0 | refine below_step ?_ hb1 | refine below_step ?_ hb2 | refine below_step ?_ hb3 | refine below_step ?_ hb4 | refine below_step ?_ hb5 | refine below_step ?_ hb6 | refine below_step ?_ hb7)⟩

set_option maxHeartbeats 4000000 in
theorem mul_pn (a sa b sb : Int) (w : World) (h : Both a sa b sb) (hs : sa + sb ≤ 12) (hA : decide (a < 0) = false) (hB : decide (b < 0) = true) (hz : -((a.natAbs * b.natAbs : Nat) : Int) = a * b) :
    Calls Tryz.prog 57 #[(.agg #[.int .i64 (a), .int .i64 (sa)]), (.agg #[.int .i64 (b), .int .i64 (sb)])] w (MulPost a sa b sb w) := by
  have b1 := h.1.2.2.2
  have b2 := h.2.2.2.2
  have b3 := h.1.2.2.1
  have b4 := h.2.2.2.1
  have c1 := h.1.1
  have c2 := h.1.2.1
  have c3 := h.2.1
  have c4 := h.2.2.1
  have hab : a.natAbs < 18446744073709551616 := by omega
  have hbb : b.natAbs < 18446744073709551616 := by omega
  have hmul := mul_le (x := a.natAbs) (y := b.natAbs) (a := 999999999999999) (b := 999999999999999) (by omega) (by omega)
  have hmul' : a.natAbs * b.natAbs < 340282366920938463463374607431768211456 := by omega
  have hfit : Fits (-((a.natAbs * b.natAbs : Nat) : Int)) := by
    unfold Fits
    generalize a.natAbs * b.natAbs = m at *
    omega
  have H := hide h
  have HZ := hide hz
  clear hmul h hz
  have QA : Hid (∀ W, Calls Tryz.prog 30 #[.int .i64 a] W fun e w' => e = .returned (.int .u64 (a.natAbs : Int)) ∧ w' = W) := hide fun W => magnitude_q a W c1 c2
  have QB : Hid (∀ W, Calls Tryz.prog 30 #[.int .i64 b] W fun e w' => e = .returned (.int .u64 (b.natAbs : Int)) ∧ w' = W) := hide fun W => magnitude_q b W c3 c4
  generalize hp : a.natAbs = p at *
  have HP := hide hp
  clear hp
  generalize hq : b.natAbs = q at *
  have HQ := hide hq
  clear hq
  go_enter Tryz.func57, Tryz.ntmps57
  go_wp2_with fail
  refine (both_ok _ _ _ _ _ H.out).mono ?_
  rintro e w1 ⟨rfl, hb1⟩
  obtain ⟨hc1, hf1⟩ := bcell hb1
  have z1 : w.heap.size + 1 + 1 < w1.heap.size := by have := hb1.size; simp at this; omega
  have r0w : w1.cell? ⟨w.heap.size + 1 + 1, 0, none⟩ = some (.int .i64 0) := by rw [hc1 _ _ (by simp)]; simp [go_sem]
  have r1w : w1.cell? ⟨w.heap.size + 1 + 1, 1, none⟩ = some (.int .i64 0) := by rw [hc1 _ _ (by simp)]; simp [go_sem]
  have f0w : w1.frozen? ⟨w.heap.size + 1 + 1, 0, none⟩ = false := by rw [hf1 _ _ (by simp)]; simp [go_sem]
  have f1w : w1.frozen? ⟨w.heap.size + 1 + 1, 1, none⟩ = false := by rw [hf1 _ _ (by simp)]; simp [go_sem]
  have a0w : w1.cell? ⟨w.heap.size, 0, none⟩ = some (.int .i64 a) := by rw [hc1 _ _ (by simp; omega)]; simp [go_sem]
  have b0w : w1.cell? ⟨w.heap.size + 1, 0, none⟩ = some (.int .i64 b) := by rw [hc1 _ _ (by simp)]; simp [go_sem]
  go_wp2_with fail
  refine (scale_yes _ _ (by omega) hs).mono ?_
  rintro e w' ⟨rfl, rfl⟩
  go_wp2_with fail
  go_quiet ((first | (go_at_call 30; with_reducible exact Calls.quiet_of_same (QA.out _)) | (go_at_call 30; with_reducible exact Calls.quiet_of_same (QB.out _)) | (go_at_call 74; exact Calls.quiet_of_same (mul_words _ _ _ hab hbb hmul'))))
  go_wp2_with fail
  refine (signed_yes _ _).mono ?_
  rintro e w2 ⟨rfl, hb2⟩
  go_wp2_with fail
  refine (number_any _ _ _ hfit).mono ?_
  rintro e w5 ⟨n, t, x, rfl, hN, hb5⟩
  have HN := hide hN
  clear hN
  have hW : Below w1.heap.size w1 w5 := by repeat (first | (refine below_set ?_ ?hsz _; case hsz => (first | omega | (simp; done) | (simp; omega) | (have hs0 := hb.size; simp at hs0 ⊢; omega) | (have hs1 := hb1.size; simp at hs1 ⊢; omega) | (have hs1 := hb1.size; have hs2 := hb2.size; simp at hs1 hs2 ⊢; omega))) | exact Below.refl _ _ | refine below_alloc ?_ _ | refine below_drew ?_ | refine below_drewn ?_ _ | refine below_step ?_ hb | refine below_step ?_ hb0 | refine below_step ?_ hb1 | refine below_step ?_ hb2 | refine below_step ?_ hb3 | refine below_step ?_ hb4 | refine below_step ?_ hb5 | refine below_step ?_ hb6 | refine below_step ?_ hb7)
  have r0 := (hW.cell (p := ⟨w.heap.size + 1 + 1, 0, none⟩) z1).trans r0w
  have r1 := (hW.cell (p := ⟨w.heap.size + 1 + 1, 1, none⟩) z1).trans r1w
  have f0 := (hW.frozen (p := ⟨w.heap.size + 1 + 1, 0, none⟩) z1).trans f0w
  have f1 := (hW.frozen (p := ⟨w.heap.size + 1 + 1, 1, none⟩) z1).trans f1w
  go_wp2_with fail
  exact bodyPost_ret (v := .tuple #[(.agg #[.int .i64 (n), .int .i64 (t)]), .int .i64 x]) (by simp [results, Tryz.results57, go_sem, r0, r1]) rfl ⟨n, t, x, rfl, .inl ⟨H.out, hs, by rw [← HZ.out]; exact HN.out⟩, by repeat (first | (refine below_set ?_ ?hsz _; case hsz => (first | omega | (simp; done) | (simp; omega) | (have hs0 := hb.size; simp at hs0 ⊢; omega) | (have hs1 := hb1.size; simp at hs1 ⊢; omega) | (have hs1 := hb1.size; have hs2 := hb2.size; simp at hs1 hs2 ⊢; omega))) | exact Below.refl _ _ | refine below_alloc ?_ _ | refine below_drew ?_ | refine below_drewn ?_ _ | refine below_step ?_ hb | refine below_step ?_ hb0 | refine below_step ?_ hb1 | refine below_step ?_ hb2 | refine below_step ?_ hb3 | refine below_step ?_ hb4 | refine below_step ?_ hb5 | refine below_step ?_ hb6 | refine below_step ?_ hb7)⟩


theorem mul_ok (a sa b sb : Int) (w : World) (h : Both a sa b sb) (hs : sa + sb ≤ 12) :
    Calls Tryz.prog 57 #[(.agg #[.int .i64 (a), .int .i64 (sa)]), (.agg #[.int .i64 (b), .int .i64 (sb)])] w (MulPost a sa b sb w) := by
  cases hA : decide (a < 0) <;> cases hB : decide (b < 0)
  · exact mul_pp a sa b sb w h hs hA hB (prod_pos (hA.trans hB.symm))
  · exact mul_pn a sa b sb w h hs hA hB (prod_neg (by rw [hA, hB]; decide))
  · exact mul_np a sa b sb w h hs hA hB (prod_neg (by rw [hA, hB]; decide))
  · exact mul_nn a sa b sb w h hs hA hB (prod_pos (hA.trans hB.symm))
set_option maxHeartbeats 1000000 in
theorem mul_big (a sa b sb : Int) (w : World) (h : Both a sa b sb) (hs : 12 < sa + sb) :
    Calls Tryz.prog 57 #[(.agg #[.int .i64 (a), .int .i64 (sa)]), (.agg #[.int .i64 (b), .int .i64 (sb)])] w (MulPost a sa b sb w) := by
  have b1 := h.1.2.2.2
  have b2 := h.2.2.2.2
  have b3 := h.1.2.2.1
  have b4 := h.2.2.2.1
  have H := hide h
  clear h
  go_enter Tryz.func57, Tryz.ntmps57
  go_wp2_with fail
  refine (both_ok _ _ _ _ _ H.out).mono ?_
  rintro e w1 ⟨rfl, hb1⟩
  obtain ⟨hc1, hf1⟩ := bcell hb1
  have r0 : w1.cell? ⟨w.heap.size + 1 + 1, 0, none⟩ = some (.int .i64 0) := by rw [hc1 _ _ (by simp)]; simp [go_sem]
  have r1 : w1.cell? ⟨w.heap.size + 1 + 1, 1, none⟩ = some (.int .i64 0) := by rw [hc1 _ _ (by simp)]; simp [go_sem]
  go_wp2_with fail
  refine (scale_no _ _ (by omega)).mono ?_
  rintro e w' ⟨rfl, rfl⟩
  go_wp2_with fail
  exact bodyPost_ret (v := .tuple #[(.agg #[.int .i64 (0), .int .i64 (0)]), .int .i64 14]) (by simp [results, Tryz.results57, go_sem, r0, r1]) rfl ⟨0, 0, 14, rfl, .inr (.inl ⟨H.out, hs, rfl, rfl, rfl⟩), by repeat (first | (refine below_set ?_ ?hsz _; case hsz => (first | omega | (simp; done) | (simp; omega) | (have hs0 := hb.size; simp at hs0 ⊢; omega) | (have hs1 := hb1.size; simp at hs1 ⊢; omega) | (have hs1 := hb1.size; have hs2 := hb2.size; simp at hs1 hs2 ⊢; omega))) | exact Below.refl _ _ | refine below_alloc ?_ _ | refine below_drew ?_ | refine below_drewn ?_ _ | refine below_step ?_ hb | refine below_step ?_ hb0 | refine below_step ?_ hb1 | refine below_step ?_ hb2 | refine below_step ?_ hb3 | refine below_step ?_ hb4 | refine below_step ?_ hb5 | refine below_step ?_ hb6 | refine below_step ?_ hb7)⟩
set_option maxHeartbeats 1000000 in
theorem mul_no (a sa b sb : Int) (w : World) (h : ¬ Both a sa b sb) :
    Calls Tryz.prog 57 #[(.agg #[.int .i64 (a), .int .i64 (sa)]), (.agg #[.int .i64 (b), .int .i64 (sb)])] w (MulPost a sa b sb w) := by
  have H := hide h
  clear h
  go_enter Tryz.func57, Tryz.ntmps57
  go_wp2_with fail
  refine (both_no _ _ _ _ _ H.out).mono ?_
  rintro e w1 ⟨rfl, hb1⟩
  obtain ⟨hc1, hf1⟩ := bcell hb1
  have r0 : w1.cell? ⟨w.heap.size + 1 + 1, 0, none⟩ = some (.int .i64 0) := by rw [hc1 _ _ (by simp)]; simp [go_sem]
  have r1 : w1.cell? ⟨w.heap.size + 1 + 1, 1, none⟩ = some (.int .i64 0) := by rw [hc1 _ _ (by simp)]; simp [go_sem]
  go_wp2_with fail
  exact bodyPost_ret (v := .tuple #[(.agg #[.int .i64 (0), .int .i64 (0)]), .int .i64 2]) (by simp [results, Tryz.results57, go_sem, r0, r1]) rfl ⟨0, 0, 2, rfl, .inr (.inr ⟨H.out, rfl, rfl, rfl⟩), by repeat (first | (refine below_set ?_ ?hsz _; case hsz => (first | omega | (simp; done) | (simp; omega) | (have hs0 := hb.size; simp at hs0 ⊢; omega) | (have hs1 := hb1.size; simp at hs1 ⊢; omega) | (have hs1 := hb1.size; have hs2 := hb2.size; simp at hs1 hs2 ⊢; omega))) | exact Below.refl _ _ | refine below_alloc ?_ _ | refine below_drew ?_ | refine below_drewn ?_ _ | refine below_step ?_ hb | refine below_step ?_ hb0 | refine below_step ?_ hb1 | refine below_step ?_ hb2 | refine below_step ?_ hb3 | refine below_step ?_ hb4 | refine below_step ?_ hb5 | refine below_step ?_ hb6 | refine below_step ?_ hb7)⟩
theorem mul_any (a sa b sb : Int) (w : World) : Calls Tryz.prog 57 #[(.agg #[.int .i64 (a), .int .i64 (sa)]), (.agg #[.int .i64 (b), .int .i64 (sb)])] w (MulPost a sa b sb w) := by
  by_cases h : Both a sa b sb
  · by_cases hs : sa + sb ≤ 12
    · exact mul_ok a sa b sb w h hs
    · exact mul_big a sa b sb w h (by omega)
  · exact mul_no a sa b sb w h
end Go.Proofs.YtcifakhpggoebabGreatDoor
