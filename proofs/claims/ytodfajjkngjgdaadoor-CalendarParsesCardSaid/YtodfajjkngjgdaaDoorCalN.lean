/- Times: their parts and their texts. Conditions: the tables hold what the program's text lays. -/
import Derived.Test.YtodfajjkngjgdaaDoorCalM
namespace Go.Proofs.YtodfajjkngjgdaaDoor
open Go Go.RowKit Go.PlainAid

/-- the parts of a time -/
def Parts (n D R : Int) : Prop := -719162 ≤ D ∧ D ≤ 2932896 ∧ 0 ≤ R ∧ R < 86400000 ∧ 86400000 * D + R = n
theorem Parts.same {n D R D' R' : Int} (h : Parts n D R) (h' : Parts n D' R') : D = D' ∧ R = R' := by
  obtain ⟨_, _, _, _, _⟩ := h
  obtain ⟨_, _, _, _, _⟩ := h'
  omega

set_option maxHeartbeats 1000000 in
theorem divide_any (n : Int) (w : World) (h1 : -62135596800000 ≤ n) (h2 : n ≤ 253402300799999) :
    Calls Tryd.prog 60 #[.int .i64 n] w fun e w' => ∃ D R : Int, e = .returned (.tuple #[.int .i64 D, .int .i64 R]) ∧ Parts n D R ∧ w' = w := by
  go_enter Tryd.func60, Tryd.ntmps60
  go_wp2_with fail
  go_ret2
  exact ⟨_, _, rfl, ⟨by omega, by omega, by omega, by omega, by omega⟩, rfl⟩

set_option maxHeartbeats 1000000 in
theorem split_ok (n : Int) (w : World) (h1 : -62135596800000 ≤ n) (h2 : n ≤ 253402300799999) :
    Calls Tryd.prog 35 #[.int .i64 n] w fun e w' => ∃ D R : Int, e = .returned (.tuple #[.int .i64 D, .int .i64 R, .int .i64 0]) ∧ Parts n D R ∧ w' = w := by
  go_enter Tryd.func35, Tryd.ntmps35
  go_wp2_with (go_at_call 59; go_in)
  refine (divide_any n _ h1 h2).mono ?_
  rintro e w' ⟨D, R, rfl, hp, rfl⟩
  have hp := hide hp
  go_wp2_with fail
  go_ret3
  exact ⟨D, R, rfl, hp.out, rfl⟩

set_option maxHeartbeats 1000000 in
theorem split_no (n : Int) (w : World) (h : n < -62135596800000 ∨ 253402300799999 < n) :
    Calls Tryd.prog 35 #[.int .i64 n] w fun e w' => e = .returned (.tuple #[.int .i64 0, .int .i64 0, .int .i64 2]) ∧ w' = w := by
  rcases h with h | h
  all_goals
    try (have h' : -62135596800000 ≤ n := by omega)
    try (have q : decide (n ≤ 253402300799999) = false := decide_eq_false (by omega))
    go_enter Tryd.func35, Tryd.ntmps35
    go_wp2_with (go_at_call 59; go_in)
    go_ret3
    exact ⟨rfl, rfl⟩

set_option maxHeartbeats 1000000 in
theorem timeText_no (n : Int) (w : World) (h : n < -62135596800000 ∨ 253402300799999 < n) :
    Calls Tryd.prog 36 #[.int .i64 n] w fun e w' => e = .returned (.tuple #[.string ⟨#[]⟩, .int .i64 2]) ∧ w' = w := by
  rcases h with h | h
  all_goals
    try (have h' : -62135596800000 ≤ n := by omega)
    try (have q : decide (n ≤ 253402300799999) = false := decide_eq_false (by omega))
    go_enter Tryd.func36, Tryd.ntmps36
    go_wp2_with (go_at_call 59; go_in)
    go_ret2
    exact ⟨rfl, rfl⟩

set_option maxHeartbeats 1000000 in
theorem join_ok (D R : Int) (w : World) (h1 : -719162 ≤ D) (h2 : D ≤ 2932896) (h3 : 0 ≤ R) (h4 : R < 86400000) :
    Calls Tryd.prog 38 #[.int .i64 D, .int .i64 R] w fun e w' => e = .returned (.tuple #[.int .i64 (86400000 * D + R), .int .i64 0]) ∧ w' = w := by
  go_enter Tryd.func38, Tryd.ntmps38
  go_wp2_with (go_at_call 47; go_in)
  go_ret2
  exact ⟨by go_num, rfl⟩

theorem neg_parts {n : Int} (h : n < 0) : 86400000 * n.tdiv 86400000 + n.tmod 86400000 = n ∧ n.tmod 86400000 ≤ 0 ∧ -86400000 < n.tmod 86400000 := by
  obtain ⟨a, rfl⟩ : ∃ a : Nat, n = -(a : Int) := ⟨n.natAbs, by omega⟩
  rw [Int.neg_tdiv, Int.neg_tmod, Int.tdiv_eq_ediv_of_nonneg (by omega), Int.tmod_eq_emod_of_nonneg (by omega)]
  omega
set_option maxHeartbeats 1000000 in
theorem refSplit_any (n : Int) (w : World) (h1 : -62135596800000 ≤ n) (h2 : n ≤ 253402300799999) :
    Calls Tryd.prog 37 #[.int .i64 n] w fun e w' => ∃ D R : Int, e = .returned (.tuple #[.int .i64 D, .int .i64 R]) ∧ Parts n D R ∧ w' = w := by
  by_cases c : 0 ≤ n
  · go_enter Tryd.func37, Tryd.ntmps37
    go_wp2_with fail
    go_ret2
    exact ⟨_, _, rfl, ⟨by omega, by omega, by omega, by omega, by omega⟩, rfl⟩
  · have ht := hide (neg_parts (show n < 0 by omega))
    have a1 : -720000 ≤ n.tdiv 86400000 := by have := ht.out; omega
    have a2 : n.tdiv 86400000 ≤ 0 := by have := ht.out; omega
    have a3 : -86400000 < n.tmod 86400000 := by have := ht.out; omega
    have a4 : n.tmod 86400000 ≤ 0 := by have := ht.out; omega
    go_enter Tryd.func37, Tryd.ntmps37
    go_wp2_with fail
    all_goals
      go_ret2
      refine ⟨_, _, rfl, ?_, rfl⟩
      have h3 := ht.out
      generalize n.tdiv 86400000 = a at *
      generalize n.tmod 86400000 = b at *
      refine ⟨?_, ?_, ?_, ?_, ?_⟩ <;> omega

/-- the text of the milliseconds since a day's beginning -/
def clockL (r : Nat) : List UInt8 :=
  tail (r / 3600000) 2 ++ [58] ++ tail (r / 60000 % 60) 2 ++ [58] ++ tail (r / 1000 % 60) 2 ++ (if r % 1000 = 0 then [] else 46 :: tail (r % 1000) 3)

theorem pad_tail3 {n : Nat} (h : n < 1000) : padL n 3 = tail n 3 := by
  rw [tail, tail, tail, tail, show n / 10 ^ 2 % 10 = n / 100 by omega, show n / 10 ^ 1 % 10 = n / 10 % 10 by omega, show n / 10 ^ 0 % 10 = n % 10 by simp]
  unfold padL
  rw [← Lib.decDigits_length]
  by_cases h1 : n < 10
  · rw [digits_lt10 h1, show n / 100 = 0 by omega, show n / 10 % 10 = 0 by omega, show n % 10 = n by omega]; rfl
  by_cases h2 : n < 100
  · rw [digits_more h1, digits_lt10 (show n / 10 < 10 by omega), show n / 100 = 0 by omega, show n / 10 % 10 = n / 10 by omega]; rfl
  · rw [digits_more h1, digits_more (show ¬ n / 10 < 10 by omega), digits_lt10 (show n / 10 / 10 < 10 by omega), show n / 100 = n / 10 / 10 by omega]; rfl

set_option maxHeartbeats 4000000 in
theorem clockText_any (r : Nat) (w : World) (hl : Laid w) (h : r < 86400000) :
    Calls Tryd.prog 61 #[.int .i64 r] w fun e w' => ∃ t : ByteArray, e = .returned (.string t) ∧ t.data.toList = clockL r ∧ t.size ≤ 12 ∧ Below w.heap.size w w' := by
  have sz : ∀ (t : ByteArray) (l : List UInt8), t.data.toList = l → t.size = l.length := fun t l e => by rw [← e]; exact Array.length_toList.symm
  have SZ := hide sz
  clear sz
  have hcase : r % 1000 = 0 ∨ r % 1000 ≠ 0 := by omega
  have hC := hide hcase
  clear hcase
  go_enter Tryd.func61, Tryd.ntmps61
  go_wp2_with fail
  refine (pad_any (r / 3600000) 2 _ hl.tab (by omega) (by omega)).mono ?_
  rintro e w1 ⟨t1, rfl, e1, hb1⟩
  rw [pad_tail2 (by omega)] at e1
  have z1 : t1.size = 2 := SZ.out _ _ e1
  have E1 := hide e1
  have hl1 := hl.below hb1
  clear e1 hl
  go_wp2_with fail
  refine (pad_any (r / 60000 % 60) 2 _ hl1.tab (by omega) (by omega)).mono ?_
  rintro e w2 ⟨t2, rfl, e2, hb2⟩
  rw [pad_tail2 (by omega)] at e2
  have z2 : t2.size = 2 := SZ.out _ _ e2
  have E2 := hide e2
  have hl2 := hl1.below hb2
  have hb2 := below_step hb1 hb2
  clear e2 hl1 hb1
  go_wp2_with fail
  refine (pad_any (r / 1000 % 60) 2 _ hl2.tab (by omega) (by omega)).mono ?_
  rintro e w3 ⟨t3, rfl, e3, hb3⟩
  rw [pad_tail2 (by omega)] at e3
  have z3 : t3.size = 2 := SZ.out _ _ e3
  have E3 := hide e3
  have hl3 := hl2.below hb3
  have hb3 := below_step hb2 hb3
  clear e3 hl2 hb2
  rcases hC.out with c | c
  · have q : ((r : Int) % 1000 == 0) = true := by simp; omega
    have hc := hide c
    clear c
    go_wp2_with fail
    go_ret
    refine ⟨_, rfl, ?_, ?_, hb3⟩
    · unfold clockL
      rw [if_pos hc.out]
      simp only [ByteArray.data_append, Array.toList_append, E1.out, E2.out, E3.out, List.append_nil]
    · simp only [ByteArray.size_append, z1, z2, z3]
      decide
  · have q : ((r : Int) % 1000 == 0) = false := by simp; omega
    have hc := hide c
    clear c
    go_wp2_with fail
    refine (pad_any (r % 1000) 3 _ hl3.tab (by omega) (by omega)).mono ?_
    rintro e w4 ⟨t4, rfl, e4, hb4⟩
    rw [pad_tail3 (by omega)] at e4
    have z4 : t4.size = 3 := SZ.out _ _ e4
    have E4 := hide e4
    have hb4 := below_step hb3 hb4
    clear e4 hb3
    go_wp2_with fail
    go_ret
    refine ⟨_, rfl, ?_, ?_, hb4⟩
    · unfold clockL
      rw [if_neg hc.out]
      simp only [ByteArray.data_append, Array.toList_append, E1.out, E2.out, E3.out, E4.out]
      simp
    · simp only [ByteArray.size_append, z1, z2, z3, z4]
      decide

set_option maxHeartbeats 4000000 in
theorem timeText_ok (n : Int) (w : World) (hl : Laid w) (h1 : -62135596800000 ≤ n) (h2 : n ≤ 253402300799999) :
    Calls Tryd.prog 36 #[.int .i64 n] w fun e w' => ∃ (t : ByteArray) (D : Int) (r y m d : Nat), e = .returned (.tuple #[.string t, .int .i64 0]) ∧ Parts n D r ∧ isDateB y m d ∧ daysN y m d = D ∧ t.data.toList = dateL y m d ++ [84] ++ clockL r ++ [90] ∧ Below w.heap.size w w' := by
  go_enter Tryd.func36, Tryd.ntmps36
  go_wp2_with (go_at_call 59; go_in)
  refine (divide_any n _ h1 h2).mono ?_
  rintro e w' ⟨D, R, rfl, hp, rfl⟩
  obtain ⟨r, rfl⟩ := Int.eq_ofNat_of_zero_le hp.2.2.1
  have hr : r < 86400000 := by have := hp.2.2.2.1; omega
  have d1 := hp.1
  have d2 := hp.2.1
  have hp := hide hp
  go_wp2_with fail
  refine (dayText_any D _ hl.lens hl.tab hl.lt d1 d2).mono ?_
  rintro e w1 ⟨t1, y, m, d, rfl, hd, hn, ht, hb1⟩
  have hl1 := hl.below hb1
  have z1 : t1.size ≤ 90 := by
    have hy := hd.2.1
    have hm := hd.2.2.2.1
    have hdd : (d : Int) ≤ 31 := by have := hd.2.2.2.2.2; have := mlen_bd y m; omega
    rw [show t1.size = t1.data.toList.length from Array.length_toList.symm, ht]
    unfold dateL
    rw [pad4 (by omega), pad2 (by omega), pad2 (by omega)]
    simp
  have HD := hide hd
  have HN := hide hn
  have HT := hide ht
  clear hd hn ht
  go_wp2_with fail
  refine (clockText_any r _ hl1 hr).mono ?_
  rintro e w2 ⟨t2, rfl, e2, z2, hb2⟩
  have hb2 := below_step hb1 hb2
  have E2 := hide e2
  clear e2 hb1 hl1
  go_wp2_with fail
  go_ret2
  refine ⟨_, D, r, y, m, d, rfl, hp.out, HD.out, HN.out, ?_, hb2⟩
  simp only [ByteArray.data_append, Array.toList_append, HT.out, E2.out]

set_option maxHeartbeats 4000000 in
theorem refTimeText_any (n : Int) (w : World) (h1 : -62135596800000 ≤ n) (h2 : n ≤ 253402300799999) :
    Calls Tryd.prog 39 #[.int .i64 n] w fun e w' => ∃ (t : ByteArray) (D : Int) (r y m d : Nat), e = .returned (.string t) ∧ Parts n D r ∧ isDateB y m d ∧ daysN y m d = D ∧ t.data.toList = dateL y m d ++ [84] ++ clockL r ++ [90] ∧ Below w.heap.size w w' := by
  go_enter Tryd.func39, Tryd.ntmps39
  go_wp2_with fail
  refine (refSplit_any n _ h1 h2).mono ?_
  rintro e w' ⟨D, R, rfl, hp, rfl⟩
  obtain ⟨r, rfl⟩ := Int.eq_ofNat_of_zero_le hp.2.2.1
  have hr : r < 86400000 := by have := hp.2.2.2.1; omega
  have d1 := hp.1
  have d2 := hp.2.1
  have hp := hide hp
  go_wp2_with fail
  refine (refText_any D _ d1 d2).mono ?_
  rintro e w1 ⟨t1, y, m, d, rfl, hd, hn, ht, hb1⟩
  have z1 : t1.size ≤ 90 := by
    have hy := hd.2.1
    have hm := hd.2.2.2.1
    have hdd : (d : Int) ≤ 31 := by have := hd.2.2.2.2.2; have := mlen_bd y m; omega
    rw [show t1.size = t1.data.toList.length from Array.length_toList.symm, ht]
    unfold dateL
    rw [pad4 (by omega), pad2 (by omega), pad2 (by omega)]
    simp
  have HD := hide hd
  have HN := hide hn
  have HT := hide ht
  clear hd hn ht
  go_wp2_with fail
  refine (refDigits_any (r / 3600000) 2 _ (by omega) (by omega)).mono ?_
  rintro e w2 ⟨t2, rfl, e2, hb2⟩
  have z2 : t2.size = 2 := by show t2.data.size = 2; rw [← Array.length_toList, e2]; rfl
  have E2 := hide e2
  have hb2 := below_step hb1 hb2
  clear e2 hb1
  go_wp2_with fail
  refine (refDigits_any (r / 60000 % 60) 2 _ (by omega) (by omega)).mono ?_
  rintro e w3 ⟨t3, rfl, e3, hb3⟩
  have z3 : t3.size = 2 := by show t3.data.size = 2; rw [← Array.length_toList, e3]; rfl
  have E3 := hide e3
  have hb3 := below_step hb2 hb3
  clear e3 hb2
  go_wp2_with fail
  refine (refDigits_any (r / 1000 % 60) 2 _ (by omega) (by omega)).mono ?_
  rintro e w4 ⟨t4, rfl, e4, hb4⟩
  have z4 : t4.size = 2 := by show t4.data.size = 2; rw [← Array.length_toList, e4]; rfl
  have E4 := hide e4
  have hb4 := below_step hb3 hb4
  clear e4 hb3
  have hcase : r % 1000 = 0 ∨ r % 1000 ≠ 0 := by omega
  rcases hcase with c | c
  · have q : ((r : Int) % 1000 == 0) = true := by simp; omega
    have hc := hide c
    clear c
    go_wp2_with fail
    go_ret
    refine ⟨_, D, r, y, m, d, rfl, hp.out, HD.out, HN.out, ?_, hb4⟩
    unfold clockL
    rw [if_pos hc.out]
    simp only [ByteArray.data_append, Array.toList_append, HT.out, E2.out, E3.out, E4.out]
    simp
  · have q : ((r : Int) % 1000 == 0) = false := by simp; omega
    have hc := hide c
    clear c
    go_wp2_with fail
    refine (refDigits_any (r % 1000) 3 _ (by omega) (by omega)).mono ?_
    rintro e w5 ⟨t5, rfl, e5, hb5⟩
    have z5 : t5.size = 3 := by show t5.data.size = 3; rw [← Array.length_toList, e5]; rfl
    have E5 := hide e5
    have hb5 := below_step hb4 hb5
    clear e5 hb4
    go_wp2_with fail
    go_ret
    refine ⟨_, D, r, y, m, d, rfl, hp.out, HD.out, HN.out, ?_, hb5⟩
    unfold clockL
    rw [if_neg hc.out]
    simp only [ByteArray.data_append, Array.toList_append, HT.out, E2.out, E3.out, E4.out, E5.out]
    simp
end Go.Proofs.YtodfajjkngjgdaaDoor
