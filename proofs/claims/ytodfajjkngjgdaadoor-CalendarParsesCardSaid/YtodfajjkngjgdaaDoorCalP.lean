/- Parse for every text, and the reference's number. Conditions: the tables hold what the program's text lays. -/
import Derived.Test.YtodfajjkngjgdaaDoorCalO
namespace Go.Proofs.YtodfajjkngjgdaaDoor
open Go Go.RowKit Go.PlainAid

open Classical in
/-- what Parse returns: the number of the day and the error -/
noncomputable def dayOf (s : ByteArray) : Int × Int :=
  if dOk s = true ∧ d3 s = ⟨#[]⟩ then
    (if isDateB (cN s 4) (cN (d1 s) 2) (cN (d2 s) 2) then (daysN (cN s 4) (cN (d1 s) 2) (cN (d2 s) 2), 0) else (0, 17))
  else (0, 13)

set_option maxHeartbeats 2000000 in
theorem parse_any (s : ByteArray) (w : World) (hL : Lens w) :
    Calls Tryd.prog 30 #[.string s] w fun e w' => e = .returned (.tuple #[.int .i64 (dayOf s).1, .int .i64 (dayOf s).2]) ∧ w' = w := by
  by_cases c : dOk s = true ∧ d3 s = ⟨#[]⟩
  · by_cases hd : isDateB (cN s 4) (cN (d1 s) 2) (cN (d2 s) 2)
    · rw [dayOf, if_pos c, if_pos hd]
      exact parse_ok s w hL c.1 c.2 hd
    · rw [dayOf, if_pos c, if_neg hd]
      obtain ⟨c1, c2⟩ := c
      go_enter Tryd.func30, Tryd.ntmps30
      go_wp2_with fail
      refine (cutDate_any s w).mono ?_
      rintro e w' ⟨rfl, rfl⟩
      rw [c1, c2]
      go_wp2_with fail
      refine (days_no _ _ _ _ hL hd).mono ?_
      rintro e w' ⟨rfl, rfl⟩
      go_wp2_with fail
      go_ret2
      exact ⟨rfl, rfl⟩
  · rw [dayOf, if_neg c]
    rcases hO : dOk s with _ | _
    · clear c
      go_enter Tryd.func30, Tryd.ntmps30
      go_wp2_with fail
      refine (cutDate_any s w).mono ?_
      rintro e w' ⟨rfl, rfl⟩
      rw [hO]
      go_wp2_with fail
      go_ret2
      exact ⟨rfl, rfl⟩
    · have hne : d3 s ≠ ⟨#[]⟩ := fun h => c ⟨hO, h⟩
      have hne2 : (d3 s).toList.isEmpty = false := by
        rcases hh : (d3 s).toList.isEmpty with _ | _
        · rfl
        · rw [ByteArray.toList_eq, List.isEmpty_iff] at hh
          exact absurd (bytes_of hh) hne
      clear c
      go_enter Tryd.func30, Tryd.ntmps30
      go_wp2_with fail
      refine (cutDate_any s w).mono ?_
      rintro e w' ⟨rfl, rfl⟩
      rw [hO]
      go_wp2_with fail
      go_ret2
      exact ⟨rfl, rfl⟩

set_option maxHeartbeats 2000000 in
theorem refNumber_any (s : ByteArray) (k : Nat) (w : World) (hz : s.size = k) (h4 : k ≤ 4) (hd : digs s k) :
    Calls Tryd.prog 55 #[.string s] w fun e w' => e = .returned (.int .i64 (num s k)) ∧ w' = w := by
  have hb := get_bt s
  have hb0 := bt_nonneg s
  have hb1 := bt_le s
  have HD := hide hd
  clear hd
  go_enter Tryd.func55, Tryd.ntmps55
  go_wp2_with fail
  go_loop [3, 4] (fun r i => ∃ j : Nat, j ≤ k ∧ i = .int .i64 j ∧ r = .int .i64 (num s j)) (fun _ i => k - (intOf i).toNat)
  case atStart => exact ⟨0, by omega, rfl, rfl⟩
  case round =>
    obtain ⟨j, hj, rfl, rfl⟩ := hrel
    have hn := num_bd (show j ≤ 4 by omega) (fun i hi => HD.out i (by omega))
    obtain ⟨n0, n1⟩ := hn
    by_cases hlt : j < k
    · have hc := HD.out j hlt
      obtain ⟨c1, c2⟩ := hc
      have hm := hide (show num s (j + 1) = 10 * num s j + (bt s j - 48) by rw [num]; omega)
      go_wp2_with fail
      go_round
      case rel => exact ⟨j + 1, by omega, by go_num, by rw [hm.out]⟩
      case measure => simp [intOf]; omega
    · obtain rfl : j = k := by omega
      go_wp2_with fail
      go_ret
      exact ⟨rfl, rfl⟩
end Go.Proofs.YtodfajjkngjgdaaDoor
