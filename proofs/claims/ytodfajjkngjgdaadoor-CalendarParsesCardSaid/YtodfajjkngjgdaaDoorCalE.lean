/- CalendarMonths and CalendarDays, walked; what the reference's Civil returns. Conditions: the tables hold what the program's text lays. -/
import Derived.Test.YtodfajjkngjgdaaDoorCalD
namespace Go.Proofs.YtodfajjkngjgdaaDoor
open Go Go.RowKit Go.PlainAid

set_option maxHeartbeats 2000000 in
theorem calendarMonths_walk (y m : Int) (w : World) (hl : Laid w) (_wy : (Lit.int .i64 y).wf = true) (_wm : (Lit.int .i64 m).wf = true) :
    Calls Tryd.prog 3 #[.int .i64 y, .int .i64 m] w fun e w' => e = .returned (.bool true) ∧ Below w.heap.size w w' := by
  by_cases hv : 1 ≤ y ∧ y ≤ 9999 ∧ 1 ≤ m ∧ m ≤ 12
  · obtain ⟨h1, h2, h3, h4⟩ := hv
    have hb := mlen_bd y m
    have q1 : decide (0 < mlen y m) = true := by simp; omega
    go_enter Tryd.func3, Tryd.ntmps3
    go_wp2_with fail
    refine (monthDays_ok _ _ _ hl.lens h1 h2 h3 h4).mono ?_
    rintro e w' ⟨rfl, rfl⟩
    go_wp2_with fail
    refine (refMonth_ok _ _ _ h1 h2 h3 h4).mono ?_
    rintro e w1 ⟨rfl, hb1⟩
    go_wp2_with fail
    refine (known_any _ (hl.below hb1)).mono ?_
    rintro e w2 ⟨rfl, hb2⟩
    have hb2 := below_step hb1 hb2
    clear hb1
    go_wp2_with fail
    refine (leap_any _ _).mono ?_
    rintro e w' ⟨rfl, rfl⟩
    go_wp2_with fail
    refine (refLeap_any _ _).mono ?_
    rintro e w' ⟨rfl, rfl⟩
    go_wp2_with fail
    go_ret
    exact ⟨ret_bool (by simp), hb2⟩
  · have H := hide hv
    clear hv
    go_enter Tryd.func3, Tryd.ntmps3
    go_wp2_with fail
    refine (monthDays_no _ _ _ H.out).mono ?_
    rintro e w' ⟨rfl, rfl⟩
    go_wp2_with fail
    refine (refMonth_no _ _ _ H.out).mono ?_
    rintro e w1 ⟨rfl, hb1⟩
    go_wp2_with fail
    refine (known_any _ (hl.below hb1)).mono ?_
    rintro e w2 ⟨rfl, hb2⟩
    have hb2 := below_step hb1 hb2
    clear hb1
    go_wp2_with fail
    refine (leap_any _ _).mono ?_
    rintro e w' ⟨rfl, rfl⟩
    go_wp2_with fail
    refine (refLeap_any _ _).mono ?_
    rintro e w' ⟨rfl, rfl⟩
    go_wp2_with fail
    go_ret
    exact ⟨ret_bool (by simp), hb2⟩

theorem daysN_bd {y m d : Int} (h : isDateB y m d) : -719162 ≤ daysN y m d ∧ daysN y m d ≤ 2932896 := by
  obtain ⟨h1, h2, h3, h4, h5, h6⟩ := h
  have hs := fd_succ h1 h2
  have hl := cum12 y
  obtain ⟨k, rfl⟩ : ∃ k : Nat, m = k + 1 := ⟨(m - 1).toNat, by omega⟩
  have h7 := cumN_mono y (show k + 1 ≤ 12 by omega)
  have h8 : cumN y (k + 1) = cumN y k + mlen y (k + 1) := rfl
  have h9 := cumN_bd y k (by omega)
  have f1 : -719162 ≤ firstD y := by unfold firstD; have := fd_bd (q := y - 1) (by omega) (by omega); omega
  have f2 : firstD (y + 1) ≤ 2932897 := by
    unfold firstD
    rw [show y + 1 - 1 = y by omega]
    have : fd y ≤ fd 9999 := by unfold fd; omega
    rw [fd_9999] at this
    omega
  unfold daysN
  rw [show ((k : Int) + 1).toNat - 1 = k by omega]
  cases hp : leapB y <;> simp only [hp, if_true, if_false, Bool.false_eq_true] at hs hl <;> omega

set_option maxHeartbeats 1000000 in
theorem civil_ok (n : Int) (w : World) (hL : Lens w) (h1 : -719162 ≤ n) (h2 : n ≤ 2932896) :
    Calls Tryd.prog 21 #[.int .i64 n] w fun e w' => ∃ y m d : Int, e = .returned (.tuple #[.int .i64 y, .int .i64 m, .int .i64 d, .int .i64 0]) ∧ isDateB y m d ∧ daysN y m d = n ∧ w = w' := by
  go_enter Tryd.func21, Tryd.ntmps21
  go_wp2_with (first | (go_at_call 48; refine (date_any _ _ hL h1 h2).mono ?_; rintro e w' ⟨y, m, d, rfl, hd, hn, rfl⟩; have HD := hide hd; have HN := hide hn; clear hd hn) | go_in)
  go_returns
  exact ⟨y, m, d, rfl, HD.out, HN.out, rfl⟩
set_option maxHeartbeats 1000000 in
theorem civil_no (n : Int) (w : World) (h : n < -719162 ∨ 2932896 < n) :
    Calls Tryd.prog 21 #[.int .i64 n] w fun e w' => e = .returned (.tuple #[.int .i64 0, .int .i64 0, .int .i64 0, .int .i64 2]) ∧ w = w' := by
  rcases h with h | h
  · go_enter Tryd.func21, Tryd.ntmps21
    go_wp2
    go_returns
    exact ⟨rfl, rfl⟩
  · have h' : -719162 ≤ n := by omega
    have q : decide (n ≤ 2932896) = false := by simp; omega
    go_enter Tryd.func21, Tryd.ntmps21
    go_wp2
    go_returns
    exact ⟨rfl, rfl⟩

set_option maxHeartbeats 2000000 in
theorem calendarDays_walk (y m d : Int) (w : World) (hl : Laid w) (_wy : (Lit.int .i64 y).wf = true) (_wm : (Lit.int .i64 m).wf = true) (_wd : (Lit.int .i64 d).wf = true) :
    Calls Tryd.prog 4 #[.int .i64 y, .int .i64 m, .int .i64 d] w fun e w' => e = .returned (.bool true) ∧ Below w.heap.size w w' := by
  by_cases hv : isDateB y m d
  · have HV := hide hv
    clear hv
    go_enter Tryd.func4, Tryd.ntmps4
    go_wp2_with fail
    refine (known_any _ hl).mono ?_
    rintro e w1 ⟨rfl, hb1⟩
    have hl1 := hl.below hb1
    go_wp2_with fail
    refine (days_ok _ _ _ _ hl1.lens HV.out).mono ?_
    rintro e w' ⟨rfl, rfl⟩
    go_wp2_with fail
    refine (refDays_ok _ _ _ _ HV.out).mono ?_
    rintro e w2 ⟨rfl, hb2⟩
    have hl2 := hl1.below hb2
    have hb2 := below_step hb1 hb2
    clear hb1 hl1
    have hr := daysN_bd HV.out
    go_wp2_with fail
    refine (civil_ok _ _ hl2.lens hr.1 hr.2).mono ?_
    rintro e w' ⟨y', m', d', rfl, hd, hn, rfl⟩
    have hu := date_unique hd.1 hd.2.1 hd.2.2.1 hd.2.2.2.1 hd.2.2.2.2.1 hd.2.2.2.2.2 HV.out.1 HV.out.2.1 HV.out.2.2.1 HV.out.2.2.2.1 HV.out.2.2.2.2.1 HV.out.2.2.2.2.2 hn
    obtain ⟨rfl, rfl, rfl⟩ := hu
    clear hd hn hr hl2
    go_wp2_with fail
    go_ret
    exact ⟨ret_bool (by simp), hb2⟩
  · have HV := hide hv
    clear hv
    go_enter Tryd.func4, Tryd.ntmps4
    go_wp2_with fail
    refine (known_any _ hl).mono ?_
    rintro e w1 ⟨rfl, hb1⟩
    have hl1 := hl.below hb1
    go_wp2_with fail
    refine (days_no _ _ _ _ hl1.lens HV.out).mono ?_
    rintro e w' ⟨rfl, rfl⟩
    go_wp2_with fail
    refine (refDays_no _ _ _ _ HV.out).mono ?_
    rintro e w2 ⟨rfl, hb2⟩
    have hb2 := below_step hb1 hb2
    clear hb1 hl1
    go_wp2_with fail
    go_ret
    exact ⟨ret_bool (by simp), hb2⟩
end Go.Proofs.YtodfajjkngjgdaaDoor
