/- What the reference's In, Civil, Weekday and calendar.Weekday return. Conditions: the tables hold what the program's text lays. -/
import Derived.Test.YtodfajjkngjgdaaDoorCalE
namespace Go.Proofs.YtodfajjkngjgdaaDoor
open Go Go.RowKit Go.PlainAid

theorem isDate_first {y : Int} (h1 : 1 ≤ y) (h2 : y ≤ 9999) : isDateB y 1 1 := ⟨h1, h2, by decide, by decide, by decide, by have := mlen_bd y 1; omega⟩
theorem daysN_first (y : Int) : daysN y 1 1 = firstD y := by
  unfold daysN
  rw [show (1 : Int).toNat - 1 = 0 by decide]
  simp [cumN]

set_option maxHeartbeats 4000000 in
theorem refCivil_any (n : Int) (w : World) (h1 : -719162 ≤ n) (h2 : n ≤ 2932896) :
    Calls Tryd.prog 25 #[.int .i64 n] w fun e w' => ∃ y m d : Int, e = .returned (.tuple #[.int .i64 y, .int .i64 m, .int .i64 d]) ∧ isDateB y m d ∧ daysN y m d = n ∧ Below w.heap.size w w' := by
  have hx : Hid (firstD ((n + 719162) / 366 + 1) ≤ n) := by
    unfold Hid firstD
    rw [show (n + 719162) / 366 + 1 - 1 = (n + 719162) / 366 by omega]
    generalize hq : (n + 719162) / 366 = q
    have a1 : 366 * q ≤ n + 719162 := by omega
    have a2 : 0 ≤ q := by omega
    unfold fd
    omega
  have hq0 : 0 ≤ (n + 719162) / 366 := by omega
  have hq1 : (n + 719162) / 366 ≤ 9998 := by omega
  have h99 : Hid (n < firstD 10000) := by
    unfold Hid firstD
    show n < -719162 + fd 9999
    rw [fd_9999]; omega
  go_enter Tryd.func25, Tryd.ntmps25
  go_wp2_with fail
  go_loopw [2] (fun v wr => ∃ y : Int, 1 ≤ y ∧ y ≤ 9999 ∧ v = .int .i64 y ∧ Below w.heap.size w wr ∧ Hid (firstD y ≤ n)) (fun v _ => (10000 - (intOf v).toNat))
  case atStart => exact ⟨_, by omega, by omega, rfl, Below.refl _ _, hx⟩
  case round =>
    obtain ⟨y, hy1, hy2, rfl, hb, hf⟩ := hrel
    clear hq0 hq1 hx
    by_cases hc : y < 9999 ∧ firstD (y + 1) ≤ n
    · obtain ⟨hlt, hge⟩ := hc
      have hd := hide (daysN_first (y + 1))
      have q : (n < firstD (y + 1)) = False := by simp; exact hge
      have HGE := hide hge
      go_wp2_with fail
      refine (refDays_ok (y + 1) 1 1 _ (isDate_first (by omega) (by omega))).mono ?_
      rw [hd.out]
      rintro e w1 ⟨rfl, hb1⟩
      have hb2 := below_step hb hb1
      clear hb hb1
      go_wp2_with fail
      go_roundw
      case rel => exact ⟨y + 1, by omega, by omega, rfl, hb2, HGE⟩
      case measure => simp [intOf]; omega
    · have hnext : Hid (n < firstD (y + 1)) := by
        by_cases e : y = 9999
        · subst e; exact h99
        · unfold Hid; omega
      -- both ways out of the loop meet: the first day of the year, then the months
      have hs := hide (fd_succ hy1 hy2)
      have hfb : -719162 ≤ firstD y := by unfold firstD; have := fd_bd (q := y - 1) (by omega) (by omega); omega
      have hlast := hide (cum12 y)
      have hd := hide (daysN_first y)
      have hd1 := hide (daysN_first (y + 1))
      clear hc
      by_cases h9 : y < 9999
      · have q : (n < firstD (y + 1)) = True := by simp; exact hnext.out
        go_wp2_with fail
        refine (refDays_ok (y + 1) 1 1 _ (isDate_first (by omega) (by omega))).mono ?_
        rw [hd1.out]
        rintro e w1 ⟨rfl, hb1⟩
        have hb := below_step hb hb1
        clear hb1
        go_wp2_with fail
        refine (refDays_ok y 1 1 _ (isDate_first hy1 hy2)).mono ?_
        rw [hd.out]
        rintro e w2 ⟨rfl, hb2⟩
        have hb3 := below_step hb hb2
        clear hb2
        have hf' := hf.out
        have hn' := hnext.out
        clear q
        go_wp2_with fail
        go_loopw [3, 5] (fun m r wr => ∃ k : Nat, k ≤ 11 ∧ m = .int .i64 (k + 1 : Int) ∧ r = .int .i64 (n - firstD y - cumN y k) ∧ Hid (0 ≤ n - firstD y - cumN y k) ∧ Below w.heap.size w wr) (fun m _ _ => (13 - (intOf m).toNat))
        case atStart => exact ⟨0, by omega, rfl, by simp [cumN], by simp [Hid, cumN]; omega, hb3⟩
        case round =>
          obtain ⟨k, hk, rfl, rfl, h0, hbw⟩ := hrel
          have h0' := h0.out
          have hcb := cumN_bd y k (by omega)
          have hmb := mlen_bd y (k + 1)
          obtain ⟨c0, c1⟩ := hcb
          obtain ⟨m0, m1⟩ := hmb
          have hcs : Hid (cumN y (k + 1) = cumN y k + mlen y (k + 1)) := rfl
          by_cases hge : mlen y (k + 1) ≤ n - firstD y - cumN y k
          · have hlt : k < 11 := by
              by_cases e : k = 11
              · subst e
                have e1 := hs.out
                have e2 := hlast.out
                have e3 : cumN y 12 = cumN y 11 + mlen y 12 := rfl
                have hge' : mlen y 12 ≤ n - firstD y - cumN y 11 := hge
                cases hp : leapB y <;> simp only [hp, if_true, if_false, Bool.false_eq_true] at e1 e2 <;> omega
              · omega
            go_wp2_with fail
            refine (refMonth_ok _ _ _ hy1 hy2 (by omega) (by omega)).mono ?_
            rintro e w4 ⟨rfl, hb4⟩
            have hb5 := below_step hbw hb4
            clear hbw hb4
            go_wp2_with fail
            refine (refMonth_ok _ _ _ hy1 hy2 (by omega) (by omega)).mono ?_
            rintro e w6 ⟨rfl, hb6⟩
            have hb7 := below_step hb5 hb6
            clear hb5 hb6
            go_wp2_with fail
            go_roundw
            case rel => exact ⟨k + 1, by omega, by go_num, by rw [hcs.out, show n - firstD y - (cumN y k + mlen y (k + 1)) = n - firstD y - cumN y k - mlen y (k + 1) by omega], by unfold Hid; rw [hcs.out]; omega, hb7⟩
            case measure => simp [intOf]; omega
          · go_wp2_with fail
            refine (refMonth_ok _ _ _ hy1 hy2 (by omega) (by omega)).mono ?_
            rintro e w4 ⟨rfl, hb4⟩
            have hb5 := below_step hbw hb4
            clear hbw hb4
            go_wp2_with fail
            go_ret3
            refine ⟨y, k + 1, n - firstD y - cumN y k + 1, rfl, ⟨hy1, hy2, by omega, by omega, by omega, by omega⟩, ?_, hb5⟩
            unfold daysN
            rw [show ((k : Int) + 1).toNat - 1 = k by omega]
            omega
      · go_wp2_with fail
        refine (refDays_ok y 1 1 _ (isDate_first hy1 hy2)).mono ?_
        rw [hd.out]
        rintro e w2 ⟨rfl, hb2⟩
        have hb3 := below_step hb hb2
        clear hb2
        have hf' := hf.out
        have hn' := hnext.out
        go_wp2_with fail
        go_loopw [3, 5] (fun m r wr => ∃ k : Nat, k ≤ 11 ∧ m = .int .i64 (k + 1 : Int) ∧ r = .int .i64 (n - firstD y - cumN y k) ∧ Hid (0 ≤ n - firstD y - cumN y k) ∧ Below w.heap.size w wr) (fun m _ _ => (13 - (intOf m).toNat))
        case atStart => exact ⟨0, by omega, rfl, by simp [cumN], by simp [Hid, cumN]; omega, hb3⟩
        case round =>
          obtain ⟨k, hk, rfl, rfl, h0, hbw⟩ := hrel
          have h0' := h0.out
          have hcb := cumN_bd y k (by omega)
          have hmb := mlen_bd y (k + 1)
          obtain ⟨c0, c1⟩ := hcb
          obtain ⟨m0, m1⟩ := hmb
          have hcs : Hid (cumN y (k + 1) = cumN y k + mlen y (k + 1)) := rfl
          by_cases hge : mlen y (k + 1) ≤ n - firstD y - cumN y k
          · have hlt : k < 11 := by
              by_cases e : k = 11
              · subst e
                have e1 := hs.out
                have e2 := hlast.out
                have e3 : cumN y 12 = cumN y 11 + mlen y 12 := rfl
                have hge' : mlen y 12 ≤ n - firstD y - cumN y 11 := hge
                cases hp : leapB y <;> simp only [hp, if_true, if_false, Bool.false_eq_true] at e1 e2 <;> omega
              · omega
            go_wp2_with fail
            refine (refMonth_ok _ _ _ hy1 hy2 (by omega) (by omega)).mono ?_
            rintro e w4 ⟨rfl, hb4⟩
            have hb5 := below_step hbw hb4
            clear hbw hb4
            go_wp2_with fail
            refine (refMonth_ok _ _ _ hy1 hy2 (by omega) (by omega)).mono ?_
            rintro e w6 ⟨rfl, hb6⟩
            have hb7 := below_step hb5 hb6
            clear hb5 hb6
            go_wp2_with fail
            go_roundw
            case rel => exact ⟨k + 1, by omega, by go_num, by rw [hcs.out, show n - firstD y - (cumN y k + mlen y (k + 1)) = n - firstD y - cumN y k - mlen y (k + 1) by omega], by unfold Hid; rw [hcs.out]; omega, hb7⟩
            case measure => simp [intOf]; omega
          · go_wp2_with fail
            refine (refMonth_ok _ _ _ hy1 hy2 (by omega) (by omega)).mono ?_
            rintro e w4 ⟨rfl, hb4⟩
            have hb5 := below_step hbw hb4
            clear hbw hb4
            go_wp2_with fail
            go_ret3
            refine ⟨y, k + 1, n - firstD y - cumN y k + 1, rfl, ⟨hy1, hy2, by omega, by omega, by omega, by omega⟩, ?_, hb5⟩
            unfold daysN
            rw [show ((k : Int) + 1).toNat - 1 = k by omega]
            omega
end Go.Proofs.YtodfajjkngjgdaaDoor
