/- What charset.IsName and the reference's IsName return. No condition. -/
import Derived.Test.YtmmigpncoojobacDoorChD
namespace Go.Proofs.YtmmigpncoojobacDoor
open Go Go.RowKit Go.PlainAid

def letB (b : Int) : Bool := decide (97 ≤ b) && decide (b ≤ 122)
def digB (b : Int) : Bool := decide (48 ≤ b) && decide (b ≤ 57)
def okAt (s : ByteArray) (k : Nat) : Bool := letB (bt s k) || (k != 0 && (bt s k == 95 || digB (bt s k)))
def allB (s : ByteArray) (k : Nat) : Bool := if _h : k < s.size then okAt s k && allB s (k + 1) else true
termination_by s.size - k
def nameB (s : ByteArray) : Bool := decide (0 < s.size) && decide (s.size ≤ 32) && allB s 0
theorem allB_lt {s : ByteArray} {k : Nat} (h : k < s.size) : allB s k = (okAt s k && allB s (k + 1)) := by rw [allB, dif_pos h]
theorem allB_end {s : ByteArray} {k : Nat} (h : s.size ≤ k) : allB s k = true := by rw [allB, dif_neg (by omega)]
theorem empty_list {s : ByteArray} (h : s.size = 0) : s.toList.isEmpty = true := by
  have : s = ByteArray.empty := by
    apply ByteArray.ext
    exact Array.eq_empty_of_size_eq_zero h
  rw [this, ← decide_eq_emptyBytes ByteArray.empty]
  simp
theorem nonempty_list {s : ByteArray} (h : 0 < s.size) : s.toList.isEmpty = false := by
  rw [← decide_eq_emptyBytes s]
  simp
  rintro rfl
  exact absurd h (by decide)

set_option maxHeartbeats 400000 in
theorem isLetter_any (b : Int) (w : World) : Calls Tryd.prog 42 #[.int .u8 b] w fun e w' => e = .returned (.bool (letB b)) ∧ w = w' := by
  go_enter Tryd.func42, Tryd.ntmps42
  go_wp2
  all_goals
    go_ret
    exact ⟨ret_bool (by simp [letB, *]; try omega), rfl⟩
set_option maxHeartbeats 400000 in
theorem isDigit_any (b : Int) (w : World) : Calls Tryd.prog 43 #[.int .u8 b] w fun e w' => e = .returned (.bool (digB b)) ∧ w = w' := by
  go_enter Tryd.func43, Tryd.ntmps43
  go_wp2
  all_goals
    go_ret
    exact ⟨ret_bool (by simp [digB, *]; try omega), rfl⟩

theorem nameB_empty {s : ByteArray} (h : s.size = 0) : nameB s = false := by simp [nameB, h]
theorem nameB_long {s : ByteArray} (h : 32 < s.size) : nameB s = false := by simp [nameB]; omega
theorem nameB_mid {s : ByteArray} (h : 0 < s.size) (h' : s.size ≤ 32) : nameB s = allB s 0 := by simp [nameB, h, h']
theorem okAt_zero (s : ByteArray) : okAt s 0 = letB (bt s 0) := by simp [okAt]
theorem okAt_more (s : ByteArray) {k : Nat} (h : 0 < k) : okAt s k = (letB (bt s k) || (bt s k == 95 || digB (bt s k))) := by
  have : (k != 0) = true := by simp; omega
  simp [okAt, this]

set_option maxHeartbeats 1000000 in
theorem isName_any (s : ByteArray) (w : World) : Calls Tryd.prog 35 #[.string s] w fun e w' => e = .returned (.bool (nameB s)) ∧ w = w' := by
  have hb := get_bt s
  by_cases h0 : s.size = 0
  · rw [nameB_empty h0]
    have he := empty_list h0
    have he' : s.toList = [] := by simpa using he
    clear h0
    go_enter Tryd.func35, Tryd.ntmps35
    go_wp2_with fail
    go_ret
    exact ⟨rfl, rfl⟩
  have he := nonempty_list (s := s) (by omega)
  have he' : ¬ s.toList = [] := by simpa using he
  by_cases h1 : 32 < s.size
  · rw [nameB_long h1]
    go_enter Tryd.func35, Tryd.ntmps35
    go_wp2_with fail
    go_ret
    exact ⟨rfl, rfl⟩
  have h2 : 0 < s.size := by omega
  have h3 : s.size ≤ 32 := by omega
  rw [nameB_mid h2 h3, allB_lt h2, okAt_zero]
  clear h0 h1
  cases hl : letB (bt s 0)
  · rw [Bool.false_and]
    go_enter Tryd.func35, Tryd.ntmps35
    go_wp2_with (go_at_call 42; refine (isLetter_any _ _).mono ?_; rintro e w' ⟨rfl, rfl⟩)
    go_ret
    exact ⟨rfl, rfl⟩
  rw [Bool.true_and]
  go_enter Tryd.func35, Tryd.ntmps35
  go_wp2_with (go_at_call 42; refine (isLetter_any _ _).mono ?_; rintro e w' ⟨rfl, rfl⟩)
  clear hl
  go_loop [3] (fun i => ∃ k : Nat, 1 ≤ k ∧ k ≤ s.size ∧ i = .int .i64 k ∧ Hid (allB s (0 + 1) = allB s k)) (fun i => s.size - (intOf i).toNat)
  case atStart => exact ⟨1, by omega, by omega, rfl, rfl⟩
  case round =>
    obtain ⟨k, hk0, hk, rfl, ha⟩ := hrel
    by_cases hlt : k < s.size
    · have hr := hide (allB_lt hlt)
      have hok := hide (okAt_more s (k := k) hk0)
      cases hl : letB (bt s k)
      · cases hd : digB (bt s k)
        · cases h5 : (bt s k == 95)
          · have h6 : (bt s k != 95) = true := by simp [bne, h5]
            have hfin := hide (show allB s (0 + 1) = false by rw [ha.out, hr.out, hok.out, hl, hd, h5]; rfl)
            go_wp2_with (first | (go_at_call 42; refine (isLetter_any _ _).mono ?_; rintro e w' ⟨rfl, rfl⟩) | (go_at_call 43; refine (isDigit_any _ _).mono ?_; rintro e w' ⟨rfl, rfl⟩))
            go_ret
            exact ⟨ret_bool hfin.out.symm, rfl⟩
          · have h6 : (bt s k != 95) = false := by simp [bne, h5]
            have hfin := hide (show allB s (0 + 1) = allB s (k + 1) by rw [ha.out, hr.out, hok.out, hl, hd, h5]; rfl)
            go_wp2_with (first | (go_at_call 42; refine (isLetter_any _ _).mono ?_; rintro e w' ⟨rfl, rfl⟩) | (go_at_call 43; refine (isDigit_any _ _).mono ?_; rintro e w' ⟨rfl, rfl⟩))
            go_round
            case rel => exact ⟨k + 1, by omega, by omega, by go_num, hfin⟩
            case measure => simp [intOf]; omega
        · have hfin := hide (show allB s (0 + 1) = allB s (k + 1) by rw [ha.out, hr.out, hok.out, hl, hd, Bool.or_true]; rfl)
          go_wp2_with (first | (go_at_call 42; refine (isLetter_any _ _).mono ?_; rintro e w' ⟨rfl, rfl⟩) | (go_at_call 43; refine (isDigit_any _ _).mono ?_; rintro e w' ⟨rfl, rfl⟩))
          go_round
          case rel => exact ⟨k + 1, by omega, by omega, by go_num, hfin⟩
          case measure => simp [intOf]; omega
      · have hfin := hide (show allB s (0 + 1) = allB s (k + 1) by rw [ha.out, hr.out, hok.out, hl]; rfl)
        go_wp2_with (first | (go_at_call 42; refine (isLetter_any _ _).mono ?_; rintro e w' ⟨rfl, rfl⟩) | (go_at_call 43; refine (isDigit_any _ _).mono ?_; rintro e w' ⟨rfl, rfl⟩))
        go_round
        case rel => exact ⟨k + 1, by omega, by omega, by go_num, hfin⟩
        case measure => simp [intOf]; omega
    · have hr := hide (allB_end (s := s) (k := k) (by omega))
      go_wp2_with fail
      go_ret
      exact ⟨ret_bool (by rw [ha.out, hr.out]), rfl⟩

theorem okAt_iff {s : ByteArray} {k : Nat} : okAt s k = true ↔ (97 ≤ bt s k ∧ bt s k ≤ 122) ∨ (k ≠ 0 ∧ (bt s k = 95 ∨ (48 ≤ bt s k ∧ bt s k ≤ 57))) := by
  simp [okAt, letB, digB]
theorem okAt_false {s : ByteArray} {k : Nat} (h : ¬ ((97 ≤ bt s k ∧ bt s k ≤ 122) ∨ (k ≠ 0 ∧ (bt s k = 95 ∨ (48 ≤ bt s k ∧ bt s k ≤ 57))))) : okAt s k = false := by
  cases e : okAt s k
  · rfl
  · exact absurd (okAt_iff.1 e) h

set_option maxHeartbeats 2000000 in
theorem refIsName_any (s : ByteArray) (w : World) : Calls Tryd.prog 36 #[.string s] w fun e w' => e = .returned (.bool (nameB s)) ∧ w = w' := by
  have hb := get_bt s
  by_cases h0 : s.size = 0
  · rw [nameB_empty h0]
    have he := empty_list h0
    have he' : s.toList = [] := by simpa using he
    clear h0
    go_enter Tryd.func36, Tryd.ntmps36
    go_wp2_with fail
    go_ret
    exact ⟨rfl, rfl⟩
  have he := nonempty_list (s := s) (by omega)
  have he' : ¬ s.toList = [] := by simpa using he
  by_cases h1 : 32 < s.size
  · rw [nameB_long h1]
    go_enter Tryd.func36, Tryd.ntmps36
    go_wp2_with fail
    go_ret
    exact ⟨rfl, rfl⟩
  have h2 : 0 < s.size := by omega
  have h3 : s.size ≤ 32 := by omega
  rw [nameB_mid h2 h3]
  clear h0 h1
  go_enter Tryd.func36, Tryd.ntmps36
  go_wp2_with fail
  go_loop [3] (fun i => ∃ k : Nat, k ≤ s.size ∧ i = .int .i64 k ∧ Hid (allB s 0 = allB s k)) (fun i => s.size - (intOf i).toNat)
  case atStart => exact ⟨0, by omega, rfl, rfl⟩
  case round =>
    obtain ⟨k, hk, rfl, ha⟩ := hrel
    by_cases hlt : k < s.size
    · have hr := hide (allB_lt hlt)
      by_cases c1 : 97 ≤ bt s k
      · by_cases c2 : bt s k ≤ 122
        · have hfin := hide (show allB s 0 = allB s (k + 1) by rw [ha.out, hr.out, okAt_iff.2 (by simp at *; omega)]; rfl)
          clear hr ha
          go_wp2_with fail
          go_round
          case rel => exact ⟨k + 1, by omega, by go_num, hfin⟩
          case measure => simp [intOf]; omega
        cases c3 : ((k : Int) == 0)
        · have c5 : (bt s k != 95) = true := by simp; omega
          have hfin := hide (show allB s 0 = false by rw [ha.out, hr.out, okAt_false (by simp at *; omega)]; rfl)
          clear hr ha
          go_wp2_with fail
          go_ret
          exact ⟨ret_bool hfin.out.symm, rfl⟩
        · have hfin := hide (show allB s 0 = false by rw [ha.out, hr.out, okAt_false (by simp at *; omega)]; rfl)
          clear hr ha
          go_wp2_with fail
          go_ret
          exact ⟨ret_bool hfin.out.symm, rfl⟩
      cases c3 : ((k : Int) == 0)
      rotate_left
      · have hfin := hide (show allB s 0 = false by rw [ha.out, hr.out, okAt_false (by simp at *; omega)]; rfl)
        clear hr ha
        go_wp2_with fail
        go_ret
        exact ⟨ret_bool hfin.out.symm, rfl⟩
      cases c5 : (bt s k != 95)
      · have hfin := hide (show allB s 0 = allB s (k + 1) by rw [ha.out, hr.out, okAt_iff.2 (by simp at *; omega)]; rfl)
        clear hr ha
        go_wp2_with fail
        go_round
        case rel => exact ⟨k + 1, by omega, by go_num, hfin⟩
        case measure => simp [intOf]; omega
      by_cases c6 : 48 ≤ bt s k
      rotate_left
      · have hfin := hide (show allB s 0 = false by rw [ha.out, hr.out, okAt_false (by simp at *; omega)]; rfl)
        clear hr ha
        go_wp2_with fail
        go_ret
        exact ⟨ret_bool hfin.out.symm, rfl⟩
      by_cases c7 : bt s k ≤ 57
      · have hfin := hide (show allB s 0 = allB s (k + 1) by rw [ha.out, hr.out, okAt_iff.2 (by simp at *; omega)]; rfl)
        clear hr ha
        go_wp2_with fail
        go_round
        case rel => exact ⟨k + 1, by omega, by go_num, hfin⟩
        case measure => simp [intOf]; omega
      · have hfin := hide (show allB s 0 = false by rw [ha.out, hr.out, okAt_false (by simp at *; omega)]; rfl)
        clear hr ha
        go_wp2_with fail
        go_ret
        exact ⟨ret_bool hfin.out.symm, rfl⟩
    · have hr := hide (allB_end (s := s) (k := k) (by omega))
      go_wp2_with fail
      go_ret
      exact ⟨ret_bool (by rw [ha.out, hr.out]), rfl⟩
end Go.Proofs.YtmmigpncoojobacDoor
