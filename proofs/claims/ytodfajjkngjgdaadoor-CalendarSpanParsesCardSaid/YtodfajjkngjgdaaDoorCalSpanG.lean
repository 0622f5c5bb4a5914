/- CalendarSpans and CalendarSpanParses, walked. Conditions: the tables hold what the program's text lays. -/
import Derived.Test.YtodfajjkngjgdaaDoorCalSpanF
namespace Go.Proofs.YtodfajjkngjgdaaDoor
open Go Go.RowKit Go.PlainAid

theorem nDigits_lt : ∀ (j n : Nat), n < 10 ^ (j + 1) → Lib.nDigits n ≤ j + 1
  | 0, n, h => by rw [Lib.nDigits_small (by simpa using h)]; exact Nat.le_refl _
  | j + 1, n, h => by
    by_cases c : n < 10
    · rw [Lib.nDigits_small c]; omega
    · rw [Lib.nDigits_big c]
      have := nDigits_lt j (n / 10) (by rw [Nat.pow_succ] at h; omega)
      omega
theorem one_len (n k j : Nat) (h : n < 10 ^ (j + 1)) : (partsT (one n k)).length ≤ j + 3 := by
  unfold one; split
  · simp [partsT]
  · simp only [partsT, List.append_nil, List.length_append, Lib.decDigits_length]
    have := nDigits_lt j n h
    have := unitB_len k
    omega
theorem spanT_len32 (m : Nat) (hm : m ≤ 17592186044416) : (spanT m).length ≤ 32 := by
  unfold spanT parts; split
  · rw [partsT, partsT, digits_lt10 (by decide)]; decide
  · have h0 := one_len (rem m 0 / unitN 0) 0 5 (by have := quo_le m 0 hm (by omega); have e : (10 : Nat) ^ (5 + 1) = 1000000 := by decide
                                                   omega)
    have h1 := one_len (rem m 1 / unitN 1) 1 1 (by have : rem m 1 < 86400000 := rem_lt m 0
                                                   show rem m 1 / 3600000 < 10 ^ 2; omega)
    have h2 := one_len (rem m 2 / unitN 2) 2 1 (by have : rem m 2 < 3600000 := rem_lt m 1
                                                   show rem m 2 / 60000 < 10 ^ 2; omega)
    have h3 := one_len (rem m 3 / unitN 3) 3 1 (by have : rem m 3 < 60000 := rem_lt m 2
                                                   show rem m 3 / 1000 < 10 ^ 2; omega)
    have h4 := one_len (rem m 4 / unitN 4) 4 2 (by have : rem m 4 < 1000 := rem_lt m 3
                                                   show rem m 4 / 1 < 10 ^ 3; omega)
    rw [pref, pref, pref, pref, pref, pref, partsT_append, partsT_append, partsT_append, partsT_append, partsT_append]
    simp only [List.length_append, partsT, List.length_nil]
    omega

set_option maxHeartbeats 4000000 in
theorem calendarSpans_walk (n : Int) (w : World) (hl : Laid w) (_wn : (Lit.int .i64 n).wf = true) :
    Calls Tryd.prog 12 #[.int .i64 n] w fun e w' => e = .returned (.bool true) ∧ Below w.heap.size w w' := by
  by_cases hv : 0 ≤ n ∧ n ≤ 17592186044416
  · obtain ⟨m, rfl⟩ := Int.eq_ofNat_of_zero_le hv.1
    have hm : m ≤ 17592186044416 := by omega
    have h0 : ¬ (m : Int) < 0 := by omega
    have h1 : ¬ (17592186044416 : Int) < (m : Int) := by omega
    clear hv
    go_enter Tryd.func12, Tryd.ntmps12
    go_wp2_with fail
    refine (known_any _ hl).mono ?_
    rintro e w1 ⟨rfl, hb1⟩
    have hl1 := hl.below hb1
    go_wp2_with fail
    refine (spanText_any m _ hl1 hm).mono ?_
    rintro e w2 ⟨t, rfl, ht, hb2⟩
    have hl2 := hl1.below hb2
    have hb2 := below_step hb1 hb2
    have HT := hide ht
    have PG := hide (fun W hW => parseSpan_good t m W hW hm ht (by rw [size_of ht]; exact spanT_len32 m hm))
    clear ht hb1 hl1
    go_wp2_with fail
    refine (PG.out _ hl2).mono ?_
    rintro e w3 ⟨rfl, hb3⟩
    have hb3 := below_step hb2 hb3
    clear hb2 hl2
    go_wp2_with fail
    refine (refSpanText_any m _ hm).mono ?_
    rintro e w4 ⟨t', rfl, ht', hb4⟩
    have hb4 := below_step hb3 hb4
    obtain rfl : t' = t := ByteArray.ext (Array.toList_inj.1 (by rw [ht', HT.out]))
    clear ht' hb3
    go_wp2_with fail
    go_ret
    exact ⟨ret_bool (by simp), hb4⟩
  · have hc : n < 0 ∨ 17592186044416 < n := by omega
    have hc' := hide hc
    rcases hc with h | h
    all_goals
      try (have h' : ¬ n < 0 := by omega)
      clear hv
      go_enter Tryd.func12, Tryd.ntmps12
      go_wp2_with fail
      refine (known_any _ hl).mono ?_
      rintro e w1 ⟨rfl, hb1⟩
      go_wp2_with fail
      refine (spanText_no n _ hc'.out).mono ?_
      rintro e w' ⟨rfl, rfl⟩
      go_wp2_with fail
      go_ret
      exact ⟨ret_bool (by simp), hb1⟩

theorem cut50 (s : ByteArray) (n : Nat) (h : n ≤ s.size) : (s.extract 0 n).size = n := by
  rw [ext_size (Nat.zero_le _) h]; omega

set_option maxHeartbeats 4000000 in
theorem calendarSpanParses_walk (s : ByteArray) (w : World) (hl : Laid w) (hs : s.size ≤ maxLen) :
    Calls Tryd.prog 13 #[.string s] w fun e w' => e = .returned (.bool true) ∧ Below w.heap.size w w' := by
  unfold maxLen at hs
  obtain ⟨k, hk⟩ : ∃ k : Nat, k = min s.size 50 := ⟨_, rfl⟩
  have hk1 : k ≤ s.size := by omega
  have hk2 : k ≤ 50 := by omega
  have i1 : (k : Int) ≤ (s.size : Int) := by omega
  have i0 : (0 : Int) ≤ (k : Int) := by omega
  have em : min (s.size : Int) 50 = (k : Int) := by omega
  have hz : (s.extract 0 k).size = k := cut50 s k hk1
  obtain ⟨t, ht⟩ : ∃ t, t = s.extract 0 k := ⟨_, rfl⟩
  have HT := hide ht
  rw [← ht] at hz
  have HZ := hide hz
  clear hk ht hz
  by_cases h32 : t.size ≤ 32
  · have P : Hid (∀ W, Laid W → Calls Tryd.prog 41 #[.string (s.extract 0 k)] W (SpanPost t W)) := hide fun W hW => by rw [← HT.out]; exact parseSpan_some t W hW h32
    have G : Hid (∀ (m : Nat) W, Laid W → m ≤ 17592186044416 → t.data.toList = spanT m → Calls Tryd.prog 41 #[.string (s.extract 0 k)] W fun e w' => e = .returned (.tuple #[.int .i64 m, .int .i64 0]) ∧ Below W.heap.size W w') := hide fun m W hW hm h => by rw [← HT.out]; exact parseSpan_good t m W hW hm h h32
    have R : Hid (∀ W, Calls Tryd.prog 43 #[.string (s.extract 0 k)] W (RefSpan t W)) := hide fun W => by rw [← HT.out]; exact refParseSpan_any t W h32
    clear h32
    by_cases hm : ∃ m : Nat, m ≤ 17592186044416 ∧ t.data.toList = spanT m
    · obtain ⟨m, hm1, hm2⟩ := hm
      have HM := hide hm2
      clear hm2
      go_enter Tryd.func13, Tryd.ntmps13
      go_wp2_with fail
      refine (G.out m _ hl hm1 HM.out).mono ?_
      rintro e w1 ⟨rfl, hb1⟩
      have hl1 := hl.below hb1
      go_wp2_with fail
      refine (R.out _).mono ?_
      rintro e w2 ⟨n, x, rfl, h1, -, hb2⟩
      obtain ⟨rfl, rfl⟩ := h1 m hm1 HM.out
      have hl2 := hl1.below hb2
      have hb2 := below_step hb1 hb2
      clear h1 hb1 hl1
      go_wp2_with fail
      refine (known_any _ hl2).mono ?_
      rintro e w3 ⟨rfl, hb3⟩
      have hb3 := below_step hb2 hb3
      clear hb2 hl2
      go_wp2_with fail
      go_ret
      exact ⟨rfl, hb3⟩
    · have HM : Hid (∀ m : Nat, m ≤ 17592186044416 → t.data.toList ≠ spanT m) := hide fun m h1 h2 => hm ⟨m, h1, h2⟩
      clear hm
      go_enter Tryd.func13, Tryd.ntmps13
      go_wp2_with fail
      refine (P.out _ hl).mono ?_
      rintro e w1 ⟨n1, x1, rfl, hd, hb1⟩
      have hd' : n1 = 0 ∧ x1 = 13 := by
        rcases hd with ⟨m, h1, h2, _⟩ | h
        · exact absurd h2 (HM.out m h1)
        · exact h
      obtain ⟨rfl, rfl⟩ := hd'
      have hl1 := hl.below hb1
      clear hd
      go_wp2_with fail
      refine (R.out _).mono ?_
      rintro e w2 ⟨n, x, rfl, -, h2, hb2⟩
      obtain ⟨rfl, rfl⟩ := h2 HM.out
      have hl2 := hl1.below hb2
      have hb2 := below_step hb1 hb2
      clear h2 hb1 hl1
      go_wp2_with fail
      refine (known_any _ hl2).mono ?_
      rintro e w3 ⟨rfl, hb3⟩
      have hb3 := below_step hb2 hb3
      clear hb2 hl2
      go_wp2_with fail
      go_ret
      exact ⟨rfl, hb3⟩
  · have P : Hid (∀ W, Calls Tryd.prog 41 #[.string (s.extract 0 k)] W fun e w' => e = .returned (.tuple #[.int .i64 0, .int .i64 5]) ∧ w' = W) := hide fun W => by rw [← HT.out]; exact parseSpan_long t W (by omega)
    have R : Hid (∀ W, Calls Tryd.prog 43 #[.string (s.extract 0 k)] W fun e w' => e = .returned (.tuple #[.int .i64 0, .int .i64 5]) ∧ w' = W) := hide fun W => by rw [← HT.out]; exact refParseSpan_long t W (by omega)
    clear h32
    go_enter Tryd.func13, Tryd.ntmps13
    go_wp2_with fail
    refine (P.out _).mono ?_
    rintro e w1 ⟨rfl, rfl⟩
    go_wp2_with fail
    refine (R.out _).mono ?_
    rintro e w2 ⟨rfl, rfl⟩
    go_wp2_with fail
    refine (known_any _ hl).mono ?_
    rintro e w3 ⟨rfl, hb3⟩
    go_wp2_with fail
    go_ret
    exact ⟨rfl, hb3⟩
end Go.Proofs.YtodfajjkngjgdaaDoor
