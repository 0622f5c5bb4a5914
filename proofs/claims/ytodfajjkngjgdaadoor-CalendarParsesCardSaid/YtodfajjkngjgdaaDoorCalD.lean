/- What the reference's Leap, Month, Days and In return; CalendarJoins, CalendarMonths and CalendarDays, walked. Conditions: the tables hold what the program's text lays. -/
import Derived.Test.YtodfajjkngjgdaaDoorCalC
import Derived.Test.YtodfajjkngjgdaaDoorFlat
namespace Go.Proofs.YtodfajjkngjgdaaDoor
open Go Go.RowKit Go.PlainAid

set_option maxHeartbeats 1000000 in
theorem refLeap_any (y : Int) (w : World) : Calls Tryd.prog 18 #[.int .i64 y] w fun e w' => e = .returned (.bool (leapB y)) ∧ w = w' := by
  by_cases h1 : 1 ≤ y
  · by_cases h2 : y ≤ 9999
    · go_enter Tryd.func18, Tryd.ntmps18
      go_wp2
      all_goals
        go_ret
        refine ⟨ret_bool ?_, rfl⟩
        rw [Bool.eq_iff_iff, leap_iff]
        simp_all
      all_goals (try omega)
    · rw [show leapB y = false by simp [leapB, h2]]
      go_enter Tryd.func18, Tryd.ntmps18
      go_wp2
      go_ret
      exact ⟨rfl, rfl⟩
  · rw [show leapB y = false by simp [leapB, h1]]
    go_enter Tryd.func18, Tryd.ntmps18
    go_wp2
    go_ret
    exact ⟨rfl, rfl⟩

set_option maxHeartbeats 4000000 in
theorem refMonth_ok (y m : Int) (w : World) (h1 : 1 ≤ y) (h2 : y ≤ 9999) (h3 : 1 ≤ m) (h4 : m ≤ 12) :
    Calls Tryd.prog 15 #[.int .i64 y, .int .i64 m] w fun e w' => e = .returned (.int .i64 (mlen y m)) ∧ Below w.heap.size w w' := by
  have hm : m = 2 ∨ m = 1 ∨ m = 3 ∨ m = 4 ∨ m = 5 ∨ m = 6 ∨ m = 7 ∨ m = 8 ∨ m = 9 ∨ m = 10 ∨ m = 11 ∨ m = 12 := by omega
  rcases hm with rfl | hm
  · cases hl : leapB y
    · rw [show mlen y 2 = 28 by simp [mlen, hl]]
      go_enter Tryd.func15, Tryd.ntmps15
      go_wp2_with (go_at_call 18; refine (refLeap_any _ _).mono ?_; rintro e w' ⟨rfl, rfl⟩)
      go_ret
      exact ⟨rfl, (Below.refl _ _).alloc (Nat.le_refl _) _⟩
    · rw [show mlen y 2 = 29 by simp [mlen, hl]]
      go_enter Tryd.func15, Tryd.ntmps15
      go_wp2_with (go_at_call 18; refine (refLeap_any _ _).mono ?_; rintro e w' ⟨rfl, rfl⟩)
      go_ret
      exact ⟨rfl, Below.refl _ _⟩
  · rcases hm with rfl | rfl | rfl | rfl | rfl | rfl | rfl | rfl | rfl | rfl | rfl
    all_goals
      go_enter Tryd.func15, Tryd.ntmps15
      go_wp2_with fail
      go_ret
      exact ⟨rfl, (Below.refl _ _).alloc (Nat.le_refl _) _⟩
set_option maxHeartbeats 1000000 in
theorem refMonth_no (y m : Int) (w : World) (h : ¬ (1 ≤ y ∧ y ≤ 9999 ∧ 1 ≤ m ∧ m ≤ 12)) :
    Calls Tryd.prog 15 #[.int .i64 y, .int .i64 m] w fun e w' => e = .returned (.int .i64 0) ∧ Below w.heap.size w w' := by
  have hc : y < 1 ∨ (1 ≤ y ∧ 9999 < y) ∨ (1 ≤ y ∧ y ≤ 9999 ∧ m < 1) ∨ (1 ≤ y ∧ y ≤ 9999 ∧ 1 ≤ m ∧ 12 < m) := by omega
  clear h
  rcases hc with h1 | ⟨h1, h2⟩ | ⟨h1, h2, h3⟩ | ⟨h1, h2, h3, h4⟩
  all_goals
    go_enter Tryd.func15, Tryd.ntmps15
    go_wp2_with fail
    go_ret
    exact ⟨rfl, Below.refl _ _⟩

set_option maxHeartbeats 2000000 in
theorem refDays_ok (y m d : Int) (w : World) (h : isDateB y m d) :
    Calls Tryd.prog 20 #[.int .i64 y, .int .i64 m, .int .i64 d] w fun e w' => e = .returned (.tuple #[.int .i64 (daysN y m d), .bool true]) ∧ Below w.heap.size w w' := by
  obtain ⟨h1, h2, h3, h4, h5, h6⟩ := h
  have hb := mlen_bd y m
  have hf := fd_bd (q := y - 1) (by omega) (by omega)
  obtain ⟨f0, f1⟩ := hf
  have q1 : decide (d < 1) = false := by simp; omega
  have q2 : decide (mlen y m < d) = false := by simp; omega
  have hfe : Hid (fd (y - 1) = 365 * (y - 1) + (y - 1) / 4 - (y - 1) / 100 + (y - 1) / 400) := by unfold Hid fd; omega
  obtain ⟨n, rfl⟩ := Int.eq_ofNat_of_zero_le (show 0 ≤ m by omega)
  go_enter Tryd.func20, Tryd.ntmps20
  go_wp2_with fail
  refine (refMonth_ok _ _ _ h1 h2 h3 h4).mono ?_
  rintro e w1 ⟨rfl, hb1⟩
  go_wp2_with fail
  rw [← hfe.out]
  go_loopw [6, 9] (fun s i wr => ∃ k : Nat, k < n ∧ i = .int .i64 (k + 1 : Int) ∧ s = .int .i64 (fd (y - 1) + cumN y k) ∧ Below w.heap.size w wr) (fun _ i _ => (n + 1 - (intOf i).toNat))
  case atStart => exact ⟨0, by omega, rfl, by simp [cumN], hb1⟩
  case round =>
    obtain ⟨k, hk, rfl, rfl, hbw⟩ := hrel
    have hcb := cumN_bd y k (by omega)
    have hmb := mlen_bd y (k + 1)
    obtain ⟨c0, c1⟩ := hcb
    obtain ⟨m0, m1⟩ := hmb
    by_cases hlt : k + 1 < n
    · go_wp2_with fail
      refine (refMonth_ok _ _ _ h1 h2 (by omega) (by omega)).mono ?_
      rintro e w2 ⟨rfl, hb2⟩
      have hb3 := below_step hbw hb2
      clear hb2 hbw
      go_wp2_with fail
      go_roundw
      case rel => exact ⟨k + 1, by omega, by go_num, by rw [show cumN y (k + 1) = cumN y k + mlen y (k + 1) from rfl]; go_num, hb3⟩
      case measure => simp [intOf]; omega
    · obtain rfl : n = k + 1 := by omega
      go_wp2_with fail
      go_ret2
      have e : daysN y ((k + 1 : Nat) : Int) d = fd (y - 1) + cumN y k + d - 1 + -719162 := by
        unfold daysN firstD
        rw [show ((k + 1 : Nat) : Int).toNat - 1 = k by omega]
        omega
      exact ⟨by rw [e]; rfl, hbw⟩

set_option maxHeartbeats 2000000 in
theorem refDays_no (y m d : Int) (w : World) (h : ¬ isDateB y m d) :
    Calls Tryd.prog 20 #[.int .i64 y, .int .i64 m, .int .i64 d] w fun e w' => e = .returned (.tuple #[.int .i64 0, .bool false]) ∧ Below w.heap.size w w' := by
  by_cases hm : 1 ≤ y ∧ y ≤ 9999 ∧ 1 ≤ m ∧ m ≤ 12
  · obtain ⟨h1, h2, h3, h4⟩ := hm
    have hb := mlen_bd y m
    by_cases c : d < 1
    · clear h
      go_enter Tryd.func20, Tryd.ntmps20
      go_wp2_with fail
      all_goals (try (refine (refMonth_ok _ _ _ h1 h2 h3 h4).mono ?_; rintro e w1 ⟨rfl, hb1⟩; go_wp2_with fail))
      go_ret2
      exact ⟨rfl, by first | exact hb1 | exact Below.refl _ _⟩
    · have hd' : mlen y m < d := by
        by_cases e2 : d ≤ mlen y m
        · exact absurd ⟨h1, h2, h3, h4, by omega, e2⟩ h
        · omega
      clear h
      go_enter Tryd.func20, Tryd.ntmps20
      go_wp2_with fail
      refine (refMonth_ok _ _ _ h1 h2 h3 h4).mono ?_
      rintro e w1 ⟨rfl, hb1⟩
      go_wp2_with fail
      go_ret2
      exact ⟨rfl, hb1⟩
  · clear h
    have H := hide hm
    clear hm
    by_cases c : d < 1
    · go_enter Tryd.func20, Tryd.ntmps20
      go_wp2_with fail
      all_goals (try (refine (refMonth_no _ _ _ H.out).mono ?_; rintro e w1 ⟨rfl, hb1⟩; go_wp2_with fail))
      go_ret2
      exact ⟨rfl, by first | exact hb1 | exact Below.refl _ _⟩
    · go_enter Tryd.func20, Tryd.ntmps20
      go_wp2_with fail
      refine (refMonth_no _ _ _ H.out).mono ?_
      rintro e w1 ⟨rfl, hb1⟩
      go_wp2_with fail
      go_ret2
      exact ⟨rfl, hb1⟩

set_option maxHeartbeats 2000000 in
theorem calendarJoins_walk (d r : Int) (w : World) (hl : Laid w) (_wd : (Lit.int .i64 d).wf = true) (_wr : (Lit.int .i64 r).wf = true) :
    Calls Tryd.prog 11 #[.int .i64 d, .int .i64 r] w fun e w' => e = .returned (.bool true) ∧ Below w.heap.size w w' := by
  have hc : d < -719162 ∨ (-719162 ≤ d ∧ 2932896 < d) ∨ (-719162 ≤ d ∧ d ≤ 2932896 ∧ r < 0) ∨ (-719162 ≤ d ∧ d ≤ 2932896 ∧ 0 ≤ r ∧ 86400000 ≤ r) ∨ (-719162 ≤ d ∧ d ≤ 2932896 ∧ 0 ≤ r ∧ r < 86400000) := by omega
  rcases hc with h1 | ⟨h1, h2⟩ | ⟨h1, h2, h3⟩ | ⟨h1, h2, h3, h4⟩ | ⟨h1, h2, h3, h4⟩
  all_goals
    go_enter Tryd.func11, Tryd.ntmps11
    go_wp2_with (first | (go_at_call 16; refine (known_any _ hl).mono ?_; rintro e w1 ⟨rfl, hb1⟩) | go_in)
    go_ret
    exact ⟨ret_bool (by simp), hb1⟩
end Go.Proofs.YtodfajjkngjgdaaDoor
