/- CalendarSuccessors, walked. Conditions: the tables hold what the program's text lays. -/
import Derived.Test.YtmmigpncoojobabDoorCalI
namespace Go.Proofs.YtmmigpncoojobabDoor
open Go Go.RowKit Go.PlainAid

set_option maxRecDepth 100000 in
set_option maxHeartbeats 8000000 in
theorem calendarSuccessors_walk (n : Int) (w : World) (hl : Laid w) (_wn : (Lit.int .i64 n).wf = true) :
    Calls Tryd.prog 6 #[.int .i64 n] w fun e w' => e = .returned (.bool true) ∧ Below w.heap.size w w' := by
  by_cases hv : -719162 ≤ n ∧ n < 2932896
  · obtain ⟨h1, h2⟩ := hv
    go_enter Tryd.func6, Tryd.ntmps6
    go_wp2_with fail
    refine (known_any _ hl).mono ?_
    rintro e w1 ⟨rfl, hb1⟩
    have hl1 := hl.below hb1
    go_wp2_with fail
    refine (civil_ok n _ hl1.lens h1 (by omega)).mono ?_
    rintro e w' ⟨y, m, d, rfl, hd, hn, rfl⟩
    have HD := hide hd
    have HN := hide hn
    clear hd hn
    go_wp2_with fail
    refine (civil_ok (n + 1) _ hl1.lens (by omega) (by omega)).mono ?_
    rintro e w' ⟨y', m', d', rfl, hd', hn', rfl⟩
    have HNX := hide (next_date HD.out hd' (by rw [hn', HN.out]))
    clear hd' hn'
    go_wp2_with fail
    refine (monthDays_ok y m _ hl1.lens HD.out.1 HD.out.2.1 HD.out.2.2.1 HD.out.2.2.2.1).mono ?_
    rintro e w' ⟨rfl, rfl⟩
    go_wp2_with fail
    refine (weekday_ok n _ h1 (by omega)).mono ?_
    rintro e w' ⟨rfl, rfl⟩
    go_wp2_with fail
    refine (weekday_ok (n + 1) _ (by omega) (by omega)).mono ?_
    rintro e w' ⟨rfl, rfl⟩
    go_wp2_with fail
    refine (text_ok n _ hl1 h1 (by omega)).mono ?_
    rintro e w2 ⟨t1, a1, a2, a3, rfl, hA, hAn, hAt, hb2⟩
    have hl2 := hl1.below hb2
    have hb3 := below_step hb1 hb2
    have HA := hide hA
    have HAN := hide hAn
    have HAT := hide hAt
    clear hA hAn hAt hb1 hb2 hl1
    go_wp2_with fail
    refine (text_ok (n + 1) _ hl2 (by omega) (by omega)).mono ?_
    rintro e w4 ⟨t2, b1, b2, b3, rfl, hB, hBn, hBt, hb4⟩
    have hb6 := below_step hb3 hb4
    have hless : Op.bytesLess t1.toList t2.toList = true := by
      rw [ByteArray.toList_eq, ByteArray.toList_eq, HAT.out, hBt]
      exact next_less HA.out hB (by rw [hBn, HAN.out])
    clear hB hBn hBt hb3 hb4 hl2
    have hdb := HD.out.2.2.2.2.1
    have hdb2 := HD.out.2.2.2.2.2
    have hmb := mlen_bd y m
    have hm12 := HD.out.2.2.2.1
    by_cases c : d < mlen y m
    · obtain ⟨rfl, rfl, rfl⟩ := HNX.out.1 (by omega)
      clear HNX HD HN HA HAN HAT
      go_wp2_with fail
      go_ret
      exact ⟨rfl, hb6⟩
    by_cases c2 : m < 12
    · obtain ⟨e1, e2, e3⟩ := HNX.out.2.1 (by omega) (by omega)
      have f1 : decide (d < mlen y m) = false := decide_eq_false (by omega)
      have f2 : decide (m < 12) = true := decide_eq_true c2
      have f3 : -9223372036854775808 ≤ m + 1 ∧ m + 1 ≤ 9223372036854775807 := by
        have := HD.out.2.2.1
        omega
      have hm1 := HD.out.2.2.1
      clear HNX HD HN HA HAN HAT hdb hdb2 hmb c
      rw [e1, e2, e3]
      clear e1 e2 e3
      go_wp2_with fail
      go_ret
      exact ⟨rfl, hb6⟩
    · obtain ⟨e1, e2, e3⟩ := HNX.out.2.2 (by omega) (by omega)
      have f1 : decide (d < mlen y m) = false := decide_eq_false (by omega)
      have f2 : decide (m < 12) = false := decide_eq_false c2
      have f3 : -9223372036854775808 ≤ y + 1 ∧ y + 1 ≤ 9223372036854775807 := by
        have := HD.out.1
        have := HD.out.2.1
        omega
      clear HNX HD HN HA HAN HAT hdb hdb2 hmb c c2
      rw [e1, e2, e3]
      clear e1 e2 e3
      go_wp2_with fail
      go_ret
      exact ⟨rfl, hb6⟩
  · have hc : n < -719162 ∨ 2932896 ≤ n := by omega
    rcases hc with h | h
    all_goals
      try (have h' : -719162 ≤ n := by omega)
      clear hv
      go_enter Tryd.func6, Tryd.ntmps6
      go_wp2_with fail
      refine (known_any _ hl).mono ?_
      rintro e w1 ⟨rfl, hb1⟩
      go_wp2_with fail
      refine (known_any _ (hl.below hb1)).mono ?_
      rintro e w2 ⟨rfl, hb2⟩
      have hb3 := below_step hb1 hb2
      go_wp2_with fail
      go_ret
      exact ⟨rfl, hb3⟩
end Go.Proofs.YtmmigpncoojobabDoor
