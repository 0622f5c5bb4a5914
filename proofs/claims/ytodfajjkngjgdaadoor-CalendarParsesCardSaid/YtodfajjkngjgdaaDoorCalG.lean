/- Days of the week, weeks and months: CalendarCivil and CalendarAddsMonths, walked. Conditions: the tables hold what the program's text lays. -/
import Derived.Test.YtodfajjkngjgdaaDoorCalF
namespace Go.Proofs.YtodfajjkngjgdaaDoor
open Go Go.RowKit Go.PlainAid

theorem firstD_mono {a b : Int} (h2 : a < b) : firstD (a + 1) ≤ firstD b := by
  unfold firstD fd
  omega
theorem year_unique {n y y' : Int} (a : firstD y ≤ n) (b : n < firstD (y + 1)) (c : firstD y' ≤ n) (d : n < firstD (y' + 1)) : y = y' := by
  rcases Int.lt_trichotomy y y' with e | e | e
  · have := firstD_mono e; omega
  · exact e
  · have := firstD_mono e; omega
theorem daysN_year {y m d : Int} (h : isDateB y m d) : firstD y ≤ daysN y m d ∧ daysN y m d < firstD (y + 1) := by
  obtain ⟨h1, h2, h3, h4, h5, h6⟩ := h
  have hs := fd_succ h1 h2
  have hl := cum12 y
  obtain ⟨k, rfl⟩ : ∃ k : Nat, m = k + 1 := ⟨(m - 1).toNat, by omega⟩
  have h7 := cumN_mono y (show k + 1 ≤ 12 by omega)
  have h8 : cumN y (k + 1) = cumN y k + mlen y (k + 1) := rfl
  have h9 := cumN_bd y k (by omega)
  unfold daysN
  rw [show ((k : Int) + 1).toNat - 1 = k by omega]
  cases hp : leapB y <;> simp only [hp, if_true, if_false, Bool.false_eq_true] at hs hl <;> omega

set_option maxHeartbeats 1000000 in
theorem weekday_ok (n : Int) (w : World) (h1 : -719162 ≤ n) (h2 : n ≤ 2932896) :
    Calls Tryd.prog 22 #[.int .i64 n] w fun e w' => e = .returned (.tuple #[.int .i64 ((n + 719162) % 7 + 1), .int .i64 0]) ∧ w = w' := by
  go_enter Tryd.func22, Tryd.ntmps22
  go_wp2
  go_ret2
  exact ⟨rfl, rfl⟩
set_option maxHeartbeats 1000000 in
theorem weekday_no (n : Int) (w : World) (h : n < -719162 ∨ 2932896 < n) :
    Calls Tryd.prog 22 #[.int .i64 n] w fun e w' => e = .returned (.tuple #[.int .i64 0, .int .i64 2]) ∧ w = w' := by
  rcases h with h | h
  · go_enter Tryd.func22, Tryd.ntmps22
    go_wp2
    go_ret2
    exact ⟨rfl, rfl⟩
  · have h' : -719162 ≤ n := by omega
    have q : decide (n ≤ 2932896) = false := by simp; omega
    go_enter Tryd.func22, Tryd.ntmps22
    go_wp2
    go_ret2
    exact ⟨rfl, rfl⟩
set_option maxHeartbeats 1000000 in
theorem refWeekday_any (n : Int) (w : World) (h1 : -719162 ≤ n) (h2 : n ≤ 2932896) :
    Calls Tryd.prog 27 #[.int .i64 n] w fun e w' => e = .returned (.int .i64 ((n + 719162) % 7 + 1)) ∧ w = w' := by
  go_enter Tryd.func27, Tryd.ntmps27
  go_wp2
  go_ret
  exact ⟨rfl, rfl⟩

def thu (n : Int) : Int := n - ((n + 719162) % 7 + 1) + 4
theorem thu_in {n : Int} (h1 : -719162 ≤ n) (h2 : n ≤ 2932896) : -719162 ≤ thu n ∧ thu n ≤ 2932896 := by unfold thu; omega
/-- what the week of a day is -/
def IsWeek (n y k : Int) : Prop := 1 ≤ y ∧ y ≤ 9999 ∧ firstD y ≤ thu n ∧ thu n < firstD (y + 1) ∧ k = (thu n - firstD y) / 7 + 1
theorem IsWeek.unique {n y k y' k' : Int} (h : IsWeek n y k) (h' : IsWeek n y' k') : y = y' ∧ k = k' := by
  obtain ⟨_, _, c, d, e⟩ := h
  obtain ⟨_, _, c', d', e'⟩ := h'
  have := year_unique c d c' d'
  subst this
  exact ⟨rfl, by rw [e, e']⟩

set_option maxHeartbeats 1000000 in
theorem week_ok (n : Int) (w : World) (h1 : -719162 ≤ n) (h2 : n ≤ 2932896) :
    Calls Tryd.prog 23 #[.int .i64 n] w fun e w' => ∃ y k : Int, e = .returned (.tuple #[.int .i64 y, .int .i64 k, .int .i64 0]) ∧ IsWeek n y k ∧ w = w' := by
  have ht := thu_in h1 h2
  have hte : Hid (thu n = n - ((n + 719162) % 7 + 1) + 4) := rfl
  go_enter Tryd.func23, Tryd.ntmps23
  go_wp2_with (first | (go_at_call 47; go_in) | (go_at_call 49; go_in))
  rw [← hte.out]
  refine (yearOf_any (thu n) _ ht.1 ht.2).mono ?_
  rintro e w' ⟨y, rfl, hy1, hy2, hf1, hf2, rfl⟩
  have hfb : -719162 ≤ firstD y := by unfold firstD; have := fd_bd (q := y - 1) (by omega) (by omega); omega
  obtain ⟨ht1, ht2⟩ := ht
  go_wp2_with (go_at_call 46; refine (firstDay_any _ _ hy1 (by omega)).mono ?_; rintro e w' ⟨rfl, rfl⟩)
  go_ret3
  exact ⟨y, _, rfl, ⟨hy1, hy2, hf1, hf2, rfl⟩, rfl⟩
set_option maxHeartbeats 1000000 in
theorem week_no (n : Int) (w : World) (h : n < -719162 ∨ 2932896 < n) :
    Calls Tryd.prog 23 #[.int .i64 n] w fun e w' => e = .returned (.tuple #[.int .i64 0, .int .i64 0, .int .i64 2]) ∧ w = w' := by
  rcases h with h | h
  · go_enter Tryd.func23, Tryd.ntmps23
    go_wp2
    go_ret3
    exact ⟨rfl, rfl⟩
  · have h' : -719162 ≤ n := by omega
    have q : decide (n ≤ 2932896) = false := by simp; omega
    go_enter Tryd.func23, Tryd.ntmps23
    go_wp2
    go_ret3
    exact ⟨rfl, rfl⟩

set_option maxHeartbeats 2000000 in
theorem refWeek_any (n : Int) (w : World) (h1 : -719162 ≤ n) (h2 : n ≤ 2932896) :
    Calls Tryd.prog 26 #[.int .i64 n] w fun e w' => ∃ y k : Int, e = .returned (.tuple #[.int .i64 y, .int .i64 k]) ∧ IsWeek n y k ∧ Below w.heap.size w w' := by
  have ht := thu_in h1 h2
  obtain ⟨ht1, ht2⟩ := ht
  have hte : Hid (thu n = n - ((n + 719162) % 7 + 1) + 4) := rfl
  have ht1' : -719162 ≤ n - ((n + 719162) % 7 + 1) + 4 := ht1
  have ht2' : n - ((n + 719162) % 7 + 1) + 4 ≤ 2932896 := ht2
  go_enter Tryd.func26, Tryd.ntmps26
  go_wp2_with (first | (go_at_call 27; refine (refWeekday_any _ _ h1 h2).mono ?_; rintro e w' ⟨rfl, rfl⟩) | (go_at_call 24; go_in))
  rw [← hte.out]
  refine (refCivil_any (thu n) _ ht1 ht2).mono ?_
  rintro e w1 ⟨y, m, d, rfl, hd, hn, hb1⟩
  have hyr := daysN_year hd
  rw [hn] at hyr
  obtain ⟨hf1, hf2⟩ := hyr
  have hy1 := hd.1
  have hy2 := hd.2.1
  have hfb : -719162 ≤ firstD y := by unfold firstD; have := fd_bd (q := y - 1) (by omega) (by omega); omega
  have hdf := hide (daysN_first y)
  clear hd hn
  go_wp2_with fail
  refine (refDays_ok y 1 1 _ (isDate_first hy1 hy2)).mono ?_
  rw [hdf.out]
  rintro e w2 ⟨rfl, hb2⟩
  have hb3 := below_step hb1 hb2
  clear hb1 hb2
  go_wp2_with fail
  go_ret2
  exact ⟨y, _, rfl, ⟨hy1, hy2, hf1, hf2, rfl⟩, hb3⟩

set_option maxHeartbeats 2000000 in
theorem calendarCivil_walk (n : Int) (w : World) (hl : Laid w) (_wn : (Lit.int .i64 n).wf = true) :
    Calls Tryd.prog 5 #[.int .i64 n] w fun e w' => e = .returned (.bool true) ∧ Below w.heap.size w w' := by
  by_cases hv : -719162 ≤ n ∧ n ≤ 2932896
  · obtain ⟨h1, h2⟩ := hv
    go_enter Tryd.func5, Tryd.ntmps5
    go_wp2_with fail
    refine (known_any _ hl).mono ?_
    rintro e w1 ⟨rfl, hb1⟩
    have hl1 := hl.below hb1
    go_wp2_with fail
    refine (civil_ok _ _ hl1.lens h1 h2).mono ?_
    rintro e w' ⟨y, m, d, rfl, hd, hn, rfl⟩
    have HD := hide hd
    have HN := hide hn
    clear hd hn hl1
    go_wp2_with fail
    refine (weekday_ok _ _ h1 h2).mono ?_
    rintro e w' ⟨rfl, rfl⟩
    go_wp2_with fail
    refine (week_ok _ _ h1 h2).mono ?_
    rintro e w' ⟨wy, wk, rfl, hw, rfl⟩
    have HW := hide hw
    clear hw
    go_wp2_with (first | (go_at_call 24; go_in))
    refine (refCivil_any _ _ h1 h2).mono ?_
    rintro e w2 ⟨y', m', d', rfl, hd, hn, hb2⟩
    have hb2 := below_step hb1 hb2
    clear hb1
    have hu := date_unique hd.1 hd.2.1 hd.2.2.1 hd.2.2.2.1 hd.2.2.2.2.1 hd.2.2.2.2.2 HD.out.1 HD.out.2.1 HD.out.2.2.1 HD.out.2.2.2.1 HD.out.2.2.2.2.1 HD.out.2.2.2.2.2 (hn.trans HN.out.symm)
    obtain ⟨rfl, rfl, rfl⟩ := hu
    clear hd hn
    go_wp2_with fail
    refine (refWeek_any _ _ h1 h2).mono ?_
    rintro e w3 ⟨ry, rk, rfl, hw', hb3⟩
    have hb3 := below_step hb2 hb3
    clear hb2
    obtain ⟨rfl, rfl⟩ := IsWeek.unique HW.out hw'
    clear hw'
    go_wp2_with (first | (go_at_call 27; refine (refWeekday_any _ _ h1 h2).mono ?_; rintro e w' ⟨rfl, rfl⟩))
    go_ret
    exact ⟨ret_bool (by simp), hb3⟩
  · have hc : n < -719162 ∨ 2932896 < n := by omega
    have HC := hide hc
    rcases hc with h | h
    all_goals
      try (have h' : -719162 ≤ n := by omega)
      try (have q : decide (n ≤ 2932896) = false := by simp; omega)
      clear hv
      go_enter Tryd.func5, Tryd.ntmps5
      go_wp2_with fail
      refine (known_any _ hl).mono ?_
      rintro e w1 ⟨rfl, hb1⟩
      go_wp2_with fail
      refine (civil_no _ _ HC.out).mono ?_
      rintro e w' ⟨rfl, rfl⟩
      go_wp2_with fail
      refine (weekday_no _ _ HC.out).mono ?_
      rintro e w' ⟨rfl, rfl⟩
      go_wp2_with fail
      refine (week_no _ _ HC.out).mono ?_
      rintro e w' ⟨rfl, rfl⟩
      go_wp2_with go_in
      go_ret
      exact ⟨rfl, hb1⟩
end Go.Proofs.YtodfajjkngjgdaaDoor
