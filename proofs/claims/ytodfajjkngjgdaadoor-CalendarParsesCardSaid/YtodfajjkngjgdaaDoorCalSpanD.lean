/- The reference's texts of durations. No condition but the ranges. -/
import Derived.Test.YtodfajjkngjgdaaDoorCalSpanC
namespace Go.Proofs.YtodfajjkngjgdaaDoor
open Go Go.RowKit Go.PlainAid

set_option maxHeartbeats 1000000 in
theorem refDigits_big (n count : Nat) (w : World) (hn : n ≤ 999999) (hc : count ≤ 4) :
    Calls Tryd.prog 53 #[.int .i64 n, .int .i64 count] w fun e w' => ∃ t : ByteArray, e = .returned (.string t) ∧ t.data.toList = tail n count ∧ Below w.heap.size w w' := by
  go_enter Tryd.func53, Tryd.ntmps53
  go_wp2_with fail
  go_loopw [0, 5, 6] (fun a s i wr => ∃ (k q : Nat) (t : ByteArray), k ≤ count ∧ i = .int .i64 k ∧ a = .int .i64 q ∧ s = .string t ∧ q ≤ 999999 ∧ t.size = k ∧ Hid (q = n / 10 ^ k) ∧ Hid (t.data.toList = tail n k) ∧ Below w.heap.size w wr) (fun _ _ i _ => count - (intOf i).toNat)
  case atStart => exact ⟨0, n, ⟨#[]⟩, Nat.zero_le _, rfl, rfl, rfl, hn, rfl, by show n = n / 10 ^ 0; simp, rfl, Below.refl _ _⟩
  case round =>
    obtain ⟨k, q, t, hk, rfl, rfl, rfl, hq, hz, hQ, hT, hbw⟩ := hrel
    have k1 := fun (a : Int) => run_convert_bytes_arg (P := Tryd.prog) (wr.alloc (.cells #[.int .u8 a] 5)) 63 5 Tryd.underlying63 Tryd.underlying5 wr.heap.size 0 1 1 [a] rfl (fun i hi => cells_lit wr 5 [a] i hi) 9 Tryd.underlying9
    have zs : ∀ x : Int, (strOfNums [x]).size = 1 := fun x => strOfNums_size [x]
    by_cases hlt : k < count
    · go_wp2_with fail
      go_roundw
      case rel => exact ⟨k + 1, q / 10, _, by omega, by go_num, by go_num, rfl, by omega, by rw [ByteArray.size_append, zs]; omega, hide (by rw [hQ.out, Nat.div_div_eq_div_mul, Nat.pow_succ]), hide (by
        rw [ByteArray.data_append, Array.toList_append, hT.out, strOfNums_data, tail, ← hQ.out]
        show UInt8.ofNat (48 + (q : Int) % 10).toNat :: _ = dgt (q % 10) :: _
        rw [dgt, show (48 + (q : Int) % 10).toNat = 48 + q % 10 by omega]
        rfl), hbw.alloc hbw.size _⟩
      case measure => simp [intOf]; omega
    · obtain rfl : k = count := by omega
      go_wp2_with fail
      go_ret
      exact ⟨t, rfl, hT.out, hbw⟩
theorem refDigit (n : Nat) (w : World) (hn : n ≤ 999999) :
    Calls Tryd.prog 53 #[.int .i64 n, .int .i64 1] w fun e w' => ∃ t : ByteArray, e = .returned (.string t) ∧ t.data.toList = [dgt (n % 10)] ∧ Below w.heap.size w w' := by
  have := refDigits_big n 1 w hn (by decide)
  rwa [tail, tail, Nat.pow_zero, Nat.div_one] at this

set_option maxHeartbeats 1000000 in
theorem refDecimal_any (k : Nat) : ∀ (n : Nat) (w : World), n ≤ k → n ≤ 999999 →
    Calls Tryd.prog 64 #[.int .i64 n] w fun e w' => ∃ t : ByteArray, e = .returned (.string t) ∧ t.data.toList = Lib.decDigits n ∧ Below w.heap.size w w' := by
  induction k with
  | zero =>
    intro n w hk hn
    obtain rfl : n = 0 := by omega
    go_enter Tryd.func64, Tryd.ntmps64
    go_wp2_with fail
    refine (refDigit 0 w hn).mono ?_
    rintro e w1 ⟨t, rfl, ht, hb⟩
    have HT := hide ht
    clear ht
    go_wp2_with fail
    go_ret
    exact ⟨t, rfl, by rw [HT.out, digits_lt10 (by decide)], hb⟩
  | succ k ih =>
    intro n w hk hn
    by_cases h10 : n < 10
    · have h10' : (n : Int) < 10 := by omega
      go_enter Tryd.func64, Tryd.ntmps64
      go_wp2_with fail
      refine (refDigit n w hn).mono ?_
      rintro e w1 ⟨t, rfl, ht, hb⟩
      have HT := hide ht
      clear ht
      go_wp2_with fail
      go_ret
      exact ⟨t, rfl, by rw [HT.out, digits_lt10 h10, Nat.mod_eq_of_lt h10], hb⟩
    · have h10' : ¬ (n : Int) < 10 := by omega
      obtain ⟨q, hq⟩ : ∃ q, q = n / 10 := ⟨_, rfl⟩
      have e1 : (n : Int) / 10 = (q : Int) := by omega
      have hq1 : q ≤ k := by omega
      have hq2 : q ≤ 999999 := by omega
      have HQ := hide hq
      have IH := hide ih
      clear hq ih
      go_enter Tryd.func64, Tryd.ntmps64
      go_wp2_with fail
      refine (IH.out q w hq1 hq2).mono ?_
      rintro e w1 ⟨t1, rfl, ht1, hb1⟩
      have z1 : t1.size ≤ 6 := by rw [size_of ht1, Lib.decDigits_length]; exact nDigits6 hq2
      have HT1 := hide ht1
      clear ht1
      go_wp2_with fail
      refine (refDigit n w1 hn).mono ?_
      rintro e w2 ⟨t2, rfl, ht2, hb2⟩
      have z2 : t2.size = 1 := by rw [size_of ht2]; rfl
      have HT2 := hide ht2
      have HB := hide (below_step hb1 hb2)
      clear ht2 hb1 hb2
      go_wp2_with fail
      go_ret
      refine ⟨_, rfl, ?_, HB.out⟩
      rw [ByteArray.data_append, Array.toList_append, HT1.out, HT2.out, digits_more h10, HQ.out]

theorem cases5 {k : Nat} (h : k < 5) : k = 0 ∨ k = 1 ∨ k = 2 ∨ k = 3 ∨ k = 4 := by omega

set_option maxHeartbeats 4000000 in
theorem refSpanText_any (m : Nat) (w : World) (hm : m ≤ 17592186044416) :
    Calls Tryd.prog 42 #[.int .i64 m] w fun e w' => ∃ t : ByteArray, e = .returned (.string t) ∧ t.data.toList = spanT m ∧ Below w.heap.size w w' := by
  have HM := hide hm
  go_enter Tryd.func42, Tryd.ntmps42
  go_wp2_with fail
  go_loopw [0, 5, 6] (fun a s i wr => ∃ (k r : Nat) (t : ByteArray), k ≤ 5 ∧ i = .int .i64 k ∧ a = .int .i64 r ∧ s = .string t ∧ r ≤ 17592186044416 ∧ t.size ≤ 40 ∧ Hid (r = rem m k) ∧ Hid (t.data.toList = partsT (pref m k)) ∧ Below w.heap.size w wr ∧ w.heap.size + 1 < wr.heap.size ∧
      Hid (∀ j, j < 5 → wr.cell? ⟨w.heap.size, j, none⟩ = some (.int .i64 (unitN j))) ∧ Hid (∀ j, j < 5 → wr.cell? ⟨w.heap.size + 1, j, none⟩ = some (.string ⟨(unitB j).toArray⟩))) (fun _ _ i _ => 5 - (intOf i).toNat)
  case atStart =>
    refine ⟨0, m, ⟨#[]⟩, Nat.zero_le _, rfl, rfl, rfl, hm, by decide, hide rfl, hide rfl, ((Below.refl _ _).alloc (Nat.le_refl _) _).alloc (by simp) _, by simp, hide fun j hj => ?_, hide fun j hj => ?_⟩
    · rcases cases5 hj with rfl | rfl | rfl | rfl | rfl <;> simp [go_sem, unitN]
    · rcases cases5 hj with rfl | rfl | rfl | rfl | rfl <;> simp [go_sem, unitB]
  case round =>
    obtain ⟨k, r, t, hk, rfl, rfl, rfl, hr, hz, hR, hT, hbw, hsz, hC, hD⟩ := hrel
    clear hm
    by_cases hlt : k < 5
    · have cN' := hC.out k hlt
      have cT' := hD.out k hlt
      obtain ⟨ub, hub⟩ : ∃ ub : ByteArray, ub = ⟨(unitB k).toArray⟩ := ⟨_, rfl⟩
      rw [← hub] at cT'
      have zu : ub.size ≤ 2 := by rw [hub]; exact (unitB_len k).2
      have UB := hide hub
      have p0 : (1 : Int) ≤ (unitN k : Int) := by have := unitN_pos k; omega
      have hq : Hid (r / unitN k ≤ 999999) := hide (by rw [hR.out]; exact quo_le m k HM.out (by omega))
      obtain ⟨q, e0⟩ : ∃ q, q = r / unitN k := ⟨_, rfl⟩
      obtain ⟨r', f0⟩ : ∃ r', r' = r % unitN k := ⟨_, rfl⟩
      have e1 : (r : Int) / (unitN k : Int) = (q : Int) := by rw [e0]; simp
      have e2 : (r : Int) % (unitN k : Int) = (r' : Int) := by rw [f0]; simp
      have hq6 : q ≤ 999999 := by rw [e0]; exact hq.out
      have hr' : r' ≤ 17592186044416 := by rw [f0]; exact Nat.le_trans (Nat.mod_le _ _) hr
      have E0 := hide e0
      have F0 := hide f0
      have i2 : (0 : Int) ≤ (k : Int) := by omega
      have i3 : (k : Int) < 5 := by omega
      have HB := hide hbw
      have ht8 : t.size ≤ 8 * k := by rw [size_of hT.out]; exact pref_len m HM.out k hk
      have lS : w.heap.size < wr.heap.size := by omega
      clear hbw e0 f0 hq hub
      rcases Nat.eq_zero_or_pos q with hq0 | hq0
      · have e3 : (r : Int) / (unitN k : Int) = 0 := by rw [e1, hq0]; rfl
        have HQ := hide hq0
        clear e1 hq0 hq6
        go_wp2_with fail
        go_roundw
        case rel => exact ⟨k + 1, r', t, by omega, by go_num, by rw [e2], rfl, hr', hz, hide (by rw [F0.out, hR.out]; rfl), hide (by rw [pref, partsT_append, ← hR.out, ← E0.out, HQ.out, hT.out]; simp [one, partsT]), HB.out, hsz, hC, hD⟩
        case measure => simp [intOf]; omega
      · have q1 : (0 : Int) < (q : Int) := by omega
        have HQ0 := hide hq0
        clear hq0
        go_wp2_with fail
        go_region_with ((go_at_call 64; (with_reducible refine (refDecimal_any q q _ (Nat.le_refl _) hq6).mono ?_); rintro e w2 ⟨t', rfl, ht', hb2⟩; have zt : t'.size ≤ 6 := (by rw [size_of ht', Lib.decDigits_length]; exact nDigits6 hq6); have c2 : w2.cell? ⟨w.heap.size + 1, k, none⟩ = some (.string ub) := (hb2.cell (p := ⟨w.heap.size + 1, k, none⟩) hsz).trans cT'; have c3 : w2.cell? ⟨w.heap.size, k, none⟩ = some (.int .i64 (unitN k)) := (hb2.cell (p := ⟨w.heap.size, k, none⟩) lS).trans cN'; have HT' := hide ht'; clear ht'))
        all_goals
          have HB1 : Hid (Below wr.heap.size wr w2) := hide (by first | exact hb2 | exact below_step (span_drew (Below.refl _ _)) hb2)
          have HB2 : Hid (Below w.heap.size w w2) := hide (below_step HB.out HB1.out)
          clear hb2
          go_wp2_with fail
          go_roundw
          case rel =>
            refine ⟨k + 1, r', _, by omega, by go_num, by rw [e2], rfl, hr', ?_, hide (by rw [F0.out, hR.out]; rfl), hide ?_, ?_, ?_, hide fun j hj => ?_, hide fun j hj => ?_⟩
            · rw [ByteArray.size_append, ByteArray.size_append]; omega
            · rw [pref, partsT_append, ← hR.out, ← E0.out, ByteArray.data_append, ByteArray.data_append, Array.toList_append, Array.toList_append, hT.out, HT'.out, UB.out, one, if_neg (by have := HQ0.out; omega), partsT, partsT, List.append_nil, List.append_assoc]
            · first | exact HB2.out | exact span_drew HB2.out
            · have := HB1.out.size; first | exact Nat.lt_of_lt_of_le hsz this | (simp; omega)
            · exact (HB1.out.cell (p := ⟨w.heap.size, j, none⟩) lS).trans (hC.out j hj)
            · exact (HB1.out.cell (p := ⟨w.heap.size + 1, j, none⟩) hsz).trans (hD.out j hj)
          case measure => simp [intOf]; omega
    · obtain rfl : k = 5 := by omega
      have HB := hide hbw
      clear hbw hsz hC hD
      by_cases h0 : m = 0
      · have ht0 : t = ⟨#[]⟩ := bytes_of (by rw [hT.out, h0]; rfl)
        subst ht0
        have H0 := hide h0
        clear h0
        go_wp2_with fail
        go_ret
        exact ⟨_, rfl, by rw [H0.out, spanT_zero], HB.out⟩
      · have q : t.toList.isEmpty = false := by
          rcases hh : t.toList.isEmpty with _ | _
          · rfl
          · rw [ByteArray.toList_eq, List.isEmpty_iff, hT.out] at hh
            have h5 := pref_N m 5
            rw [rem5] at h5
            have : partsN (pref m 5) = 0 := by
              cases hp : pref m 5 with
              | nil => rfl
              | cons p ps => rw [hp, partsT] at hh; exact absurd (List.append_eq_nil_iff.1 hh).1 (decDigits_ne _)
            omega
        have H0 := hide h0
        clear h0
        go_wp2_with fail
        go_ret
        exact ⟨_, rfl, by rw [hT.out]; unfold spanT parts; rw [if_neg H0.out], HB.out⟩
end Go.Proofs.YtodfajjkngjgdaaDoor
