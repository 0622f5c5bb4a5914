/- CalendarAddsMonths, walked. Conditions: the tables hold what the program's text lays. -/
import Derived.Test.YtodfajjkngjgdaaDoorCalG
namespace Go.Proofs.YtodfajjkngjgdaaDoor
open Go Go.RowKit Go.PlainAid

theorem min_date {y m d : Int} (h1 : 1 ≤ y) (h2 : y ≤ 9999) (h3 : 1 ≤ m) (h4 : m ≤ 12) (hd : 1 ≤ d) : isDateB y m (min d (mlen y m)) := by
  have := mlen_bd y m
  exact ⟨h1, h2, h3, h4, by omega, by omega⟩

set_option maxHeartbeats 2000000 in
theorem addMonths_ok (n k y m d : Int) (w : World) (hL : Lens w) (h1 : -719162 ≤ n) (h2 : n ≤ 2932896) (hd : isDateB y m d) (hn : daysN y m d = n) (ht0 : 0 ≤ (y - 1) * 12 + m - 1 + k) (ht1 : (y - 1) * 12 + m - 1 + k ≤ 119987) :
    Calls Tryd.prog 29 #[.int .i64 n, .int .i64 k] w fun e w' =>
      e = .returned (.tuple #[.int .i64 (daysN (((y - 1) * 12 + m - 1 + k) / 12 + 1) (((y - 1) * 12 + m - 1 + k) % 12 + 1) (min d (mlen (((y - 1) * 12 + m - 1 + k) / 12 + 1) (((y - 1) * 12 + m - 1 + k) % 12 + 1)))), .int .i64 0]) ∧ w = w' := by
  have hy1 := hd.1
  have hy2 := hd.2.1
  have hm1 := hd.2.2.1
  have hm2 := hd.2.2.2.1
  have hd1 := hd.2.2.2.2.1
  have HD := hide hd
  have HN := hide hn
  clear hd hn
  go_enter Tryd.func29, Tryd.ntmps29
  go_wp2_with (go_at_call 47; go_in)
  refine (date_any n _ hL h1 h2).mono ?_
  rintro e w' ⟨y', m', d', rfl, hd, hn, rfl⟩
  have hu := date_unique hd.1 hd.2.1 hd.2.2.1 hd.2.2.2.1 hd.2.2.2.2.1 hd.2.2.2.2.2 HD.out.1 HD.out.2.1 HD.out.2.2.1 HD.out.2.2.2.1 HD.out.2.2.2.2.1 HD.out.2.2.2.2.2 (hn.trans HN.out.symm)
  obtain ⟨rfl, rfl, rfl⟩ := hu
  clear hd hn
  go_wp2_with fail
  refine (monthLength_any _ _ _ hL (by omega) (by omega)).mono ?_
  rintro e w' ⟨rfl, rfl⟩
  go_wp2_with fail
  refine (days_ok _ _ _ _ hL (min_date (by omega) (by omega) (by omega) (by omega) hd1)).mono ?_
  rintro e w' ⟨rfl, rfl⟩
  go_wp2_with fail
  go_ret2
  exact ⟨rfl, rfl⟩

set_option maxHeartbeats 2000000 in
theorem addMonths_out (n k y m d : Int) (w : World) (hL : Lens w) (h1 : -719162 ≤ n) (h2 : n ≤ 2932896) (hd : isDateB y m d) (hn : daysN y m d = n) (ht : (y - 1) * 12 + m - 1 + k < 0 ∨ 119987 < (y - 1) * 12 + m - 1 + k) :
    Calls Tryd.prog 29 #[.int .i64 n, .int .i64 k] w fun e w' => e = .returned (.tuple #[.int .i64 0, .int .i64 2]) ∧ w = w' := by
  have hy1 := hd.1
  have hy2 := hd.2.1
  have hm1 := hd.2.2.1
  have hm2 := hd.2.2.2.1
  have HD := hide hd
  have HN := hide hn
  clear hd hn
  rcases ht with ht | ht
  all_goals
    go_enter Tryd.func29, Tryd.ntmps29
    go_wp2_with (go_at_call 47; go_in)
    refine (date_any n _ hL h1 h2).mono ?_
    rintro e w' ⟨y', m', d', rfl, hd, hn, rfl⟩
    have hu := date_unique hd.1 hd.2.1 hd.2.2.1 hd.2.2.2.1 hd.2.2.2.2.1 hd.2.2.2.2.2 HD.out.1 HD.out.2.1 HD.out.2.2.1 HD.out.2.2.2.1 HD.out.2.2.2.2.1 HD.out.2.2.2.2.2 (hn.trans HN.out.symm)
    obtain ⟨rfl, rfl, rfl⟩ := hu
    clear hd hn
    go_wp2_with fail
    go_ret2
    exact ⟨rfl, rfl⟩

set_option maxHeartbeats 1000000 in
theorem addMonths_no (n k : Int) (w : World) (h : n < -719162 ∨ 2932896 < n) :
    Calls Tryd.prog 29 #[.int .i64 n, .int .i64 k] w fun e w' => e = .returned (.tuple #[.int .i64 0, .int .i64 2]) ∧ w = w' := by
  rcases h with h | h
  · go_enter Tryd.func29, Tryd.ntmps29
    go_wp2_with (go_at_call 47; go_in)
    go_ret2
    exact ⟨rfl, rfl⟩
  · have h' : -719162 ≤ n := by omega
    have q : decide (n ≤ 2932896) = false := by simp; omega
    go_enter Tryd.func29, Tryd.ntmps29
    go_wp2_with (go_at_call 47; go_in)
    go_ret2
    exact ⟨rfl, rfl⟩

/-- every day has a date -/
theorem date_exists {n : Int} (h1 : -719162 ≤ n) (h2 : n ≤ 2932896) : ∃ y m d : Int, isDateB y m d ∧ daysN y m d = n := by
  have hg := fd_guess (x := n + 719162)
  generalize (n + 719162) * 400 / 146097 = g at hg
  have hx : ∃ q : Int, 0 ≤ q ∧ q ≤ 9998 ∧ fd q ≤ n + 719162 ∧ n + 719162 < fd (q + 1) := by
    have hb : ∀ q : Int, 9999 ≤ q → 3652059 ≤ fd q := fun q hq => by unfold fd; omega
    have hneg : ∀ q : Int, q < 0 → fd (q + 1) ≤ 0 := fun q hq => by unfold fd; omega
    by_cases c : fd (g + 1) ≤ n + 719162
    · refine ⟨g + 1, ?_, ?_, c, by rw [show g + 1 + 1 = g + 2 by omega]; exact hg.2⟩
      · by_cases e : 0 ≤ g + 1
        · exact e
        · have := hneg (g + 1) (by omega)
          rw [show g + 1 + 1 = g + 2 by omega] at this
          omega
      · by_cases e : g + 1 ≤ 9998
        · exact e
        · have := hb (g + 1) (by omega); omega
    · refine ⟨g, ?_, ?_, hg.1, by omega⟩
      · by_cases e : 0 ≤ g
        · exact e
        · have := hneg g (by omega); omega
      · by_cases e : g ≤ 9998
        · exact e
        · have := hb g (by omega); omega
  obtain ⟨q, hq0, hq1, hq2, hq3⟩ := hx
  have hf1 : firstD (q + 1) ≤ n := by unfold firstD; rw [show q + 1 - 1 = q by omega]; omega
  have hf2 : n < firstD (q + 1 + 1) := by unfold firstD; rw [show q + 1 + 1 - 1 = q + 1 by omega]; omega
  have hs := fd_succ (y := q + 1) (by omega) (by omega)
  have hl := cum12 (q + 1)
  have hk : ∃ k : Nat, k ≤ 11 ∧ cumN (q + 1) k ≤ n - firstD (q + 1) ∧ n - firstD (q + 1) < cumN (q + 1) (k + 1) := by
    have key : ∀ j : Nat, n - firstD (q + 1) < cumN (q + 1) (j + 1) → j ≤ 11 → ∃ k : Nat, k ≤ 11 ∧ cumN (q + 1) k ≤ n - firstD (q + 1) ∧ n - firstD (q + 1) < cumN (q + 1) (k + 1) := by
      intro j
      induction j with
      | zero => intro h _; exact ⟨0, by omega, by show (0 : Int) ≤ _; omega, h⟩
      | succ j ih =>
        intro h hj
        by_cases c : cumN (q + 1) (j + 1) ≤ n - firstD (q + 1)
        · exact ⟨j + 1, hj, c, h⟩
        · exact ih (by omega) (by omega)
    refine key 11 ?_ (by omega)
    show _ < cumN (q + 1) 12
    cases hp : leapB (q + 1) <;> simp only [hp, if_true, if_false, Bool.false_eq_true] at hs hl <;> omega
  obtain ⟨k, hk0, hk1, hk2⟩ := hk
  have hc : cumN (q + 1) (k + 1) = cumN (q + 1) k + mlen (q + 1) (k + 1) := rfl
  refine ⟨q + 1, k + 1, n - firstD (q + 1) - cumN (q + 1) k + 1, ⟨by omega, by omega, by omega, by omega, by omega, by omega⟩, ?_⟩
  unfold daysN
  rw [show ((k : Int) + 1).toNat - 1 = k by omega]
  omega

theorem date_same {y m d y' m' d' : Int} (h : isDateB y m d) (h' : isDateB y' m' d') (e : daysN y m d = daysN y' m' d') : y = y' ∧ m = m' ∧ d = d' :=
  date_unique h.1 h.2.1 h.2.2.1 h.2.2.2.1 h.2.2.2.2.1 h.2.2.2.2.2 h'.1 h'.2.1 h'.2.2.1 h'.2.2.2.1 h'.2.2.2.2.1 h'.2.2.2.2.2 e

set_option maxHeartbeats 4000000 in
theorem calendarAddsMonths_walk (n k : Int) (w : World) (hl : Laid w) (_wn : (Lit.int .i64 n).wf = true) (_wk : (Lit.int .i64 k).wf = true) :
    Calls Tryd.prog 7 #[.int .i64 n, .int .i64 k] w fun e w' => e = .returned (.bool true) ∧ Below w.heap.size w w' := by
  by_cases hv : -719162 ≤ n ∧ n ≤ 2932896
  · obtain ⟨h1, h2⟩ := hv
    obtain ⟨y, m, d, hd, hn⟩ := date_exists h1 h2
    have hy1 := hd.1
    have hy2 := hd.2.1
    have hm1 := hd.2.2.1
    have hm2 := hd.2.2.2.1
    have hd1 := hd.2.2.2.2.1
    have HD := hide hd
    have HN := hide hn
    clear hd hn
    have hcase : k < -200000 ∨ 200000 < k ∨ (-200000 ≤ k ∧ k ≤ 200000 ∧ (y - 1) * 12 + m - 1 + k < 0) ∨ (-200000 ≤ k ∧ k ≤ 200000 ∧ 119987 < (y - 1) * 12 + m - 1 + k) ∨ (-200000 ≤ k ∧ k ≤ 200000 ∧ 0 ≤ (y - 1) * 12 + m - 1 + k ∧ (y - 1) * 12 + m - 1 + k ≤ 119987) := by omega
    rcases hcase with c | c | ⟨c1, c2, c⟩ | ⟨c1, c2, c⟩ | ⟨c1, c2, c3, c4⟩
    · go_enter Tryd.func7, Tryd.ntmps7
      go_wp2_with fail
      refine (known_any _ hl).mono ?_
      rintro e w1 ⟨rfl, hb1⟩
      go_wp2_with fail
      refine (addMonths_out n k y m d _ (hl.below hb1).lens h1 h2 HD.out HN.out (by omega)).mono ?_
      rintro e w' ⟨rfl, rfl⟩
      go_wp2_with (go_at_call 24; go_in)
      go_ret
      exact ⟨rfl, hb1⟩
    · have c' : ¬ k < -200000 := by omega
      go_enter Tryd.func7, Tryd.ntmps7
      go_wp2_with fail
      refine (known_any _ hl).mono ?_
      rintro e w1 ⟨rfl, hb1⟩
      go_wp2_with fail
      refine (addMonths_out n k y m d _ (hl.below hb1).lens h1 h2 HD.out HN.out (by omega)).mono ?_
      rintro e w' ⟨rfl, rfl⟩
      go_wp2_with (go_at_call 24; go_in)
      go_ret
      exact ⟨rfl, hb1⟩
    · go_enter Tryd.func7, Tryd.ntmps7
      go_wp2_with fail
      refine (known_any _ hl).mono ?_
      rintro e w1 ⟨rfl, hb1⟩
      go_wp2_with fail
      refine (addMonths_out n k y m d _ (hl.below hb1).lens h1 h2 HD.out HN.out (.inl c)).mono ?_
      rintro e w' ⟨rfl, rfl⟩
      go_wp2_with (go_at_call 24; go_in)
      refine (refCivil_any _ _ h1 h2).mono ?_
      rintro e w2 ⟨y', m', d', rfl, hd, hn, hb2⟩
      have hb2 := below_step hb1 hb2
      obtain ⟨rfl, rfl, rfl⟩ := date_same hd HD.out (hn.trans HN.out.symm)
      clear hd hn hb1
      go_wp2_with fail
      go_ret
      exact ⟨rfl, hb2⟩
    · go_enter Tryd.func7, Tryd.ntmps7
      go_wp2_with fail
      refine (known_any _ hl).mono ?_
      rintro e w1 ⟨rfl, hb1⟩
      go_wp2_with fail
      refine (addMonths_out n k y m d _ (hl.below hb1).lens h1 h2 HD.out HN.out (.inr c)).mono ?_
      rintro e w' ⟨rfl, rfl⟩
      go_wp2_with (go_at_call 24; go_in)
      refine (refCivil_any _ _ h1 h2).mono ?_
      rintro e w2 ⟨y', m', d', rfl, hd, hn, hb2⟩
      have hb2 := below_step hb1 hb2
      obtain ⟨rfl, rfl, rfl⟩ := date_same hd HD.out (hn.trans HN.out.symm)
      clear hd hn hb1
      go_wp2_with fail
      go_ret
      exact ⟨rfl, hb2⟩
    · go_enter Tryd.func7, Tryd.ntmps7
      go_wp2_with fail
      refine (known_any _ hl).mono ?_
      rintro e w1 ⟨rfl, hb1⟩
      go_wp2_with fail
      refine (addMonths_ok n k y m d _ (hl.below hb1).lens h1 h2 HD.out HN.out c3 c4).mono ?_
      rintro e w' ⟨rfl, rfl⟩
      go_wp2_with (go_at_call 24; go_in)
      refine (refCivil_any _ _ h1 h2).mono ?_
      rintro e w2 ⟨y', m', d', rfl, hd, hn, hb2⟩
      have hb2 := below_step hb1 hb2
      obtain ⟨rfl, rfl, rfl⟩ := date_same hd HD.out (hn.trans HN.out.symm)
      clear hd hn hb1
      have ey : (12 * y' + m' - 1 + k) / 12 = ((y' - 1) * 12 + m' - 1 + k) / 12 + 1 := by omega
      have em : (12 * y' + m' - 1 + k) % 12 = ((y' - 1) * 12 + m' - 1 + k) % 12 := by omega
      have EY := hide ey
      have EM := hide em
      clear ey em
      go_wp2_with fail
      rw [EY.out, EM.out]
      refine (refMonth_ok _ _ _ (by omega) (by omega) (by omega) (by omega)).mono ?_
      rintro e w3 ⟨rfl, hb3⟩
      have hb3 := below_step hb2 hb3
      clear hb2
      go_wp2_with fail
      refine (refDays_ok _ _ _ _ (min_date (by omega) (by omega) (by omega) (by omega) hd1)).mono ?_
      rintro e w4 ⟨rfl, hb4⟩
      have hb4 := below_step hb3 hb4
      clear hb3
      go_wp2_with fail
      go_ret
      exact ⟨ret_bool (by simp), hb4⟩
  · have hc : n < -719162 ∨ 2932896 < n := by omega
    have HC := hide hc
    rcases hc with h | h
    all_goals
      try (have h' : -719162 ≤ n := by omega)
      try (have q : decide (n ≤ 2932896) = false := by simp; omega)
      clear hv
      go_enter Tryd.func7, Tryd.ntmps7
      go_wp2_with fail
      refine (known_any _ hl).mono ?_
      rintro e w1 ⟨rfl, hb1⟩
      go_wp2_with fail
      refine (addMonths_no _ _ _ HC.out).mono ?_
      rintro e w' ⟨rfl, rfl⟩
      go_wp2_with (go_at_call 24; go_in)
      go_ret
      exact ⟨rfl, hb1⟩
end Go.Proofs.YtodfajjkngjgdaaDoor
