/- The functions of package calendar on days and dates: what each call returns. Condition: the table of the months' lengths holds what the program's text lays. -/
import Derived.Test.YtodfajjkngjgdaaDoorProg
import Derived.Test.YtodfajjkngjgdaaDoorCalMath
import Derived.WalkKit
import Derived.WalkLawsBesides
import Derived.WalkSpells
import Derived.Handy
import Derived.Outline
import Derived.LoopTactic
import Derived.Deep.QuietTactic
import Derived.BigQuiet
namespace Go.Proofs.YtodfajjkngjgdaaDoor
open Go Go.RowKit Go.PlainAid

theorem ret_bool {a b : Bool} (h : a = b) : Ending.returned (.bool a) = .returned (.bool b) := by rw [h]
theorem ret_int {k : IntKind} {a b : Int} (h : a = b) : Ending.returned (.int k a) = .returned (.int k b) := by rw [h]
theorem hide {p : Prop} (h : p) : Hid p := h
theorem below_step {w a b : World} (h : Below w.heap.size w a) (k : Below a.heap.size a b) : Below w.heap.size w b := h.trans (k.mono h.size)
theorem drewN_below {w w' : World} {n : Nat} (h : Below w.heap.size (w.drewN n) w') : Below w.heap.size w w' := (below_drewN (Below.refl _ w) n).trans h

def lensV : List Value := lens.map (Value.int .i64)
def Lens (w : World) : Prop := ∀ i : Nat, w.cell? ⟨1, i, none⟩ = lensV[i]?
theorem Lens.at_ {w : World} (h : Lens w) {i : Nat} {v : Value} (e : lensV[i]? = some v) : w.cell? ⟨1, i, none⟩ = some v := (h i).trans e
theorem Lens.below {w w' : World} (h : Lens w) (hb : Below w.heap.size w w') : Lens w' := by
  have h0 : 1 < w.heap.size := World.block_lt_of_cell? w _ (h.at_ (i := 0) rfl)
  exact fun i => (hb.cell h0).trans (h i)

set_option maxHeartbeats 400000 in
theorem leap_any (y : Int) (w : World) : Calls Tryd.prog 17 #[.int .i64 y] w fun e w' => e = .returned (.bool (leapB y)) ∧ w = w' := by
  by_cases h1 : 1 ≤ y
  · by_cases h2 : y ≤ 9999
    · go_enter Tryd.func17, Tryd.ntmps17
      go_wp2
      all_goals
        go_ret
        refine ⟨ret_bool ?_, rfl⟩
        simp_all [leapB]
    · rw [show leapB y = false by simp [leapB, h2]]
      go_enter Tryd.func17, Tryd.ntmps17
      go_wp2
      go_ret
      exact ⟨rfl, rfl⟩
  · rw [show leapB y = false by simp [leapB, h1]]
    go_enter Tryd.func17, Tryd.ntmps17
    go_wp2
    go_ret
    exact ⟨rfl, rfl⟩

set_option maxHeartbeats 2000000 in
theorem monthLength_any (y m : Int) (w : World) (hL : Lens w) (h1 : 1 ≤ m) (h2 : m ≤ 12) :
    Calls Tryd.prog 45 #[.int .i64 y, .int .i64 m] w fun e w' => e = .returned (.int .i64 (mlen y m)) ∧ w = w' := by
  have hm : m = 2 ∨ m = 1 ∨ m = 3 ∨ m = 4 ∨ m = 5 ∨ m = 6 ∨ m = 7 ∨ m = 8 ∨ m = 9 ∨ m = 10 ∨ m = 11 ∨ m = 12 := by omega
  rcases hm with rfl | hm
  · have c := hL.at_ (i := 1) rfl
    clear hL
    cases hl : leapB y
    · rw [show mlen y 2 = 28 by simp [mlen, hl]]
      go_enter Tryd.func45, Tryd.ntmps45
      go_wp2_with (go_at_call 17; refine (leap_any _ _).mono ?_; rintro e w' ⟨rfl, rfl⟩)
      go_ret
      exact ⟨rfl, rfl⟩
    · rw [show mlen y 2 = 29 by simp [mlen, hl]]
      go_enter Tryd.func45, Tryd.ntmps45
      go_wp2_with (go_at_call 17; refine (leap_any _ _).mono ?_; rintro e w' ⟨rfl, rfl⟩)
      go_ret
      exact ⟨rfl, rfl⟩
  · have c0 := hL.at_ (i := 0) rfl
    have c2 := hL.at_ (i := 2) rfl
    have c3 := hL.at_ (i := 3) rfl
    have c4 := hL.at_ (i := 4) rfl
    have c5 := hL.at_ (i := 5) rfl
    have c6 := hL.at_ (i := 6) rfl
    have c7 := hL.at_ (i := 7) rfl
    have c8 := hL.at_ (i := 8) rfl
    have c9 := hL.at_ (i := 9) rfl
    have c10 := hL.at_ (i := 10) rfl
    have c11 := hL.at_ (i := 11) rfl
    clear hL
    rcases hm with rfl | rfl | rfl | rfl | rfl | rfl | rfl | rfl | rfl | rfl | rfl
    all_goals
      go_enter Tryd.func45, Tryd.ntmps45
      go_wp2_with fail
      go_ret
      exact ⟨rfl, rfl⟩

/-- what MonthDays returns -/
def isDateB (y m d : Int) : Prop := 1 ≤ y ∧ y ≤ 9999 ∧ 1 ≤ m ∧ m ≤ 12 ∧ 1 ≤ d ∧ d ≤ mlen y m
set_option maxHeartbeats 1000000 in
theorem monthDays_ok (y m : Int) (w : World) (hL : Lens w) (h1 : 1 ≤ y) (h2 : y ≤ 9999) (h3 : 1 ≤ m) (h4 : m ≤ 12) :
    Calls Tryd.prog 14 #[.int .i64 y, .int .i64 m] w fun e w' => e = .returned (.tuple #[.int .i64 (mlen y m), .int .i64 0]) ∧ w = w' := by
  go_enter Tryd.func14, Tryd.ntmps14
  go_wp2_with (first | (go_at_call 45; refine (monthLength_any _ _ _ hL h3 h4).mono ?_; rintro e w' ⟨rfl, rfl⟩) | go_in)
  go_ret2
  exact ⟨rfl, rfl⟩
set_option maxHeartbeats 1000000 in
theorem monthDays_no (y m : Int) (w : World) (h : ¬ (1 ≤ y ∧ y ≤ 9999 ∧ 1 ≤ m ∧ m ≤ 12)) :
    Calls Tryd.prog 14 #[.int .i64 y, .int .i64 m] w fun e w' => e = .returned (.tuple #[.int .i64 0, .int .i64 17]) ∧ w = w' := by
  by_cases h1 : 1 ≤ y
  · by_cases h2 : y ≤ 9999
    · by_cases h3 : 1 ≤ m
      · have h4 : ¬ m ≤ 12 := fun e => h ⟨h1, h2, h3, e⟩
        clear h
        go_enter Tryd.func14, Tryd.ntmps14
        go_wp2
        go_ret2
        exact ⟨rfl, rfl⟩
      · clear h
        go_enter Tryd.func14, Tryd.ntmps14
        go_wp2
        go_ret2
        exact ⟨rfl, rfl⟩
    · clear h
      go_enter Tryd.func14, Tryd.ntmps14
      go_wp2
      go_ret2
      exact ⟨rfl, rfl⟩
  · clear h
    go_enter Tryd.func14, Tryd.ntmps14
    go_wp2
    go_ret2
    exact ⟨rfl, rfl⟩

set_option maxHeartbeats 400000 in
theorem firstDay_any (y : Int) (w : World) (h1 : 1 ≤ y) (h2 : y ≤ 10001) :
    Calls Tryd.prog 46 #[.int .i64 y] w fun e w' => e = .returned (.int .i64 (firstD y)) ∧ w = w' := by
  go_enter Tryd.func46, Tryd.ntmps46
  go_wp2
  go_ret
  exact ⟨ret_int (by unfold firstD fd; omega), rfl⟩

set_option maxHeartbeats 1000000 in
theorem days_ok (y m d : Int) (w : World) (hL : Lens w) (h : isDateB y m d) :
    Calls Tryd.prog 19 #[.int .i64 y, .int .i64 m, .int .i64 d] w fun e w' => e = .returned (.tuple #[.int .i64 (daysN y m d), .int .i64 0]) ∧ w = w' := by
  obtain ⟨h1, h2, h3, h4, h5, h6⟩ := h
  have hb := mlen_bd y m
  have hf := fd_bd (q := y - 1) (by omega) (by omega)
  have hfe : firstD y = -719162 + fd (y - 1) := rfl
  have f0 : -719162 ≤ firstD y := by omega
  have f1 : firstD y ≤ 3000000 := by omega
  clear hf hfe
  have q1 : decide (d < 1) = false := by simp; omega
  have q2 : decide (mlen y m < d) = false := by simp; omega
  obtain ⟨n, rfl⟩ := Int.eq_ofNat_of_zero_le (show 0 ≤ m by omega)
  go_enter Tryd.func19, Tryd.ntmps19
  go_wp2_with (first | (go_at_call 14; refine (monthDays_ok _ _ _ hL h1 h2 h3 h4).mono ?_; rintro e w' ⟨rfl, rfl⟩) | (go_at_call 46; refine (firstDay_any _ _ h1 (by omega)).mono ?_; rintro e w' ⟨rfl, rfl⟩))
  go_loop [10, 11] (fun s i => ∃ k : Nat, k < n ∧ i = .int .i64 (k + 1 : Int) ∧ s = .int .i64 (firstD y + cumN y k)) (fun _ i => (n + 1 - (intOf i).toNat))
  case atStart => exact ⟨0, by omega, rfl, by simp [cumN]⟩
  case round =>
    obtain ⟨k, hk, rfl, rfl⟩ := hrel
    have hcb := cumN_bd y k (by omega)
    have hmb := mlen_bd y (k + 1)
    obtain ⟨c0, c1⟩ := hcb
    obtain ⟨m0, m1⟩ := hmb
    by_cases hlt : k + 1 < n
    · go_wp2_with (go_at_call 45; refine (monthLength_any _ _ _ hL (by omega) (by omega)).mono ?_; rintro e w' ⟨rfl, rfl⟩)
      go_round
      case rel => exact ⟨k + 1, by omega, by go_num, by rw [show cumN y (k + 1) = cumN y k + mlen y (k + 1) from rfl]; go_num⟩
      case measure => simp [intOf]; omega
    · obtain rfl : n = k + 1 := by omega
      go_wp2_with fail
      go_ret2
      refine ⟨?_, rfl⟩
      have e : daysN y ((k : Int) + 1) d = firstD y + cumN y k + d - 1 := by
        unfold daysN
        rw [show ((k : Int) + 1).toNat - 1 = k by omega]
      rw [e]
      rfl

set_option maxHeartbeats 1000000 in
theorem days_no (y m d : Int) (w : World) (hL : Lens w) (h : ¬ isDateB y m d) :
    Calls Tryd.prog 19 #[.int .i64 y, .int .i64 m, .int .i64 d] w fun e w' => e = .returned (.tuple #[.int .i64 0, .int .i64 17]) ∧ w = w' := by
  by_cases hm : 1 ≤ y ∧ y ≤ 9999 ∧ 1 ≤ m ∧ m ≤ 12
  · obtain ⟨h1, h2, h3, h4⟩ := hm
    have hd : d < 1 ∨ mlen y m < d := by
      by_cases e : d < 1
      · exact .inl e
      · right
        by_cases e2 : d ≤ mlen y m
        · exact absurd ⟨h1, h2, h3, h4, by omega, e2⟩ h
        · omega
    clear h
    have hb := mlen_bd y m
    by_cases c : d < 1
    · go_enter Tryd.func19, Tryd.ntmps19
      go_wp2_with (go_at_call 14; refine (monthDays_ok _ _ _ hL h1 h2 h3 h4).mono ?_; rintro e w' ⟨rfl, rfl⟩)
      go_ret2
      exact ⟨rfl, rfl⟩
    · have hd' : mlen y m < d := by omega
      clear hd
      go_enter Tryd.func19, Tryd.ntmps19
      go_wp2_with (go_at_call 14; refine (monthDays_ok _ _ _ hL h1 h2 h3 h4).mono ?_; rintro e w' ⟨rfl, rfl⟩)
      go_ret2
      exact ⟨rfl, rfl⟩
  · clear h hL
    have H := hide hm
    clear hm
    go_enter Tryd.func19, Tryd.ntmps19
    go_wp2_with (go_at_call 14; refine (monthDays_no _ _ _ H.out).mono ?_; rintro e w' ⟨rfl, rfl⟩)
    go_ret2
    exact ⟨rfl, rfl⟩

set_option maxHeartbeats 1000000 in
theorem yearOf_any (n : Int) (w : World) (h1 : -719162 ≤ n) (h2 : n ≤ 2932896) :
    Calls Tryd.prog 50 #[.int .i64 n] w fun e w' => ∃ y : Int, e = .returned (.int .i64 y) ∧ 1 ≤ y ∧ y ≤ 9999 ∧ firstD y ≤ n ∧ n < firstD (y + 1) ∧ w = w' := by
  have hg := fd_guess (x := n + 719162)
  obtain ⟨g, hgd⟩ : ∃ g, g = (n + 719162) * 400 / 146097 := ⟨_, rfl⟩
  rw [← hgd] at hg
  have hg0 : 0 ≤ g := by omega
  have hg1 : g ≤ 9999 := by omega
  have hm : ∀ q : Int, q < 9999 → True := fun _ _ => trivial
  have e2 : firstD (g + 1) = -719162 + fd g := by unfold firstD; rw [show g + 1 - 1 = g by omega]
  have e3 : firstD (g + 1 + 1) = -719162 + fd (g + 1) := by unfold firstD; rw [show g + 1 + 1 - 1 = g + 1 by omega]
  have e4 : firstD (g + 1 + 1 + 1) = -719162 + fd (g + 2) := by unfold firstD; rw [show g + 1 + 1 + 1 - 1 = g + 2 by omega]
  have hle : fd g ≤ n + 719162 := hg.1
  have hlt : n + 719162 < fd (g + 2) := hg.2
  have hb1 := fd_bd (q := g + 1) (by omega) (by omega)
  have h9 : g = 9999 → False := fun e => by rw [e, fd_9999] at hle; omega
  have h98 : g = 9998 → n + 719162 < fd (g + 1) := fun e => by rw [e]; show _ < fd 9999; rw [fd_9999]; omega
  have HG := hide hgd
  clear hm
  by_cases hc : fd (g + 1) ≤ n + 719162
  · have hq : (firstD (g + 1 + 1) ≤ n) = True := by rw [e3]; simp; omega
    have H1 := hide e2
    have H3 := hide e3
    have H4 := hide e4
    have hx : g ≤ 9997 := by
      by_cases c1 : g = 9999
      · exact (h9 c1).elim
      · by_cases c2 : g = 9998
        · have := h98 c2; omega
        · omega
    clear e2 e3 e4 hgd hg h9 h98
    go_enter Tryd.func50, Tryd.ntmps50
    go_wp2_with fail
    rw [← HG.out]
    refine (firstDay_any _ _ (by omega) (by omega)).mono ?_
    rintro e w' ⟨rfl, rfl⟩
    go_wp2_with fail
    go_ret
    exact ⟨g + 1 + 1, rfl, by omega, by omega, by rw [H3.out]; omega, by rw [H4.out]; omega, rfl⟩
  · have hq : (firstD (g + 1 + 1) ≤ n) = False := by rw [e3]; simp; omega
    have H1 := hide e2
    have H3 := hide e3
    have hx : g ≤ 9998 := by
      by_cases c1 : g = 9999
      · exact (h9 c1).elim
      · omega
    clear e2 e3 e4 hgd hg h9 h98
    go_enter Tryd.func50, Tryd.ntmps50
    go_wp2_with fail
    rw [← HG.out]
    refine (firstDay_any _ _ (by omega) (by omega)).mono ?_
    rintro e w' ⟨rfl, rfl⟩
    go_wp2_with fail
    go_ret
    exact ⟨g + 1, rfl, by omega, by omega, by rw [H1.out]; omega, by rw [H3.out]; omega, rfl⟩

set_option maxHeartbeats 2000000 in
theorem date_any (n : Int) (w : World) (hL : Lens w) (h1 : -719162 ≤ n) (h2 : n ≤ 2932896) :
    Calls Tryd.prog 48 #[.int .i64 n] w fun e w' => ∃ y m d : Int, e = .returned (.tuple #[.int .i64 y, .int .i64 m, .int .i64 d]) ∧ isDateB y m d ∧ daysN y m d = n ∧ w = w' := by
  go_enter Tryd.func48, Tryd.ntmps48
  go_wp2_with fail
  refine (yearOf_any n _ h1 h2).mono ?_
  rintro e w' ⟨y, rfl, hy1, hy2, hf1, hf2, rfl⟩
  have hs := hide (fd_succ hy1 hy2)
  have hfb : -719162 ≤ firstD y := by unfold firstD; have := fd_bd (q := y - 1) (by omega) (by omega); omega
  have hlast := hide (cum12 y)
  go_wp2_with (go_at_call 46; refine (firstDay_any _ _ hy1 (by omega)).mono ?_; rintro e w' ⟨rfl, rfl⟩)
  go_loop [3, 5] (fun m r => ∃ k : Nat, k ≤ 11 ∧ m = .int .i64 (k + 1 : Int) ∧ r = .int .i64 (n - firstD y - cumN y k) ∧ Hid (0 ≤ n - firstD y - cumN y k)) (fun m _ => (13 - (intOf m).toNat))
  case atStart => exact ⟨0, by omega, rfl, by simp [cumN], by simp [Hid, cumN]; omega⟩
  case round =>
    obtain ⟨k, hk, rfl, rfl, h0⟩ := hrel
    have h0' := h0.out
    have hcb := cumN_bd y k (by omega)
    have hmb := mlen_bd y (k + 1)
    obtain ⟨c0, c1⟩ := hcb
    obtain ⟨m0, m1⟩ := hmb
    have hcs : Hid (cumN y (k + 1) = cumN y k + mlen y (k + 1)) := rfl
    by_cases hlt : k < 11
    · by_cases hge : mlen y (k + 1) ≤ n - firstD y - cumN y k
      · go_wp2_with (go_at_call 45; refine (monthLength_any _ _ _ hL (by omega) (by omega)).mono ?_; rintro e w' ⟨rfl, rfl⟩)
        go_round
        case rel => exact ⟨k + 1, by omega, by go_num, by rw [hcs.out, show n - firstD y - (cumN y k + mlen y (k + 1)) = n - firstD y - cumN y k - mlen y (k + 1) by omega], by unfold Hid; rw [hcs.out]; omega⟩
        case measure => simp [intOf]; omega
      · go_wp2_with (go_at_call 45; refine (monthLength_any _ _ _ hL (by omega) (by omega)).mono ?_; rintro e w' ⟨rfl, rfl⟩)
        go_ret3
        refine ⟨y, k + 1, n - firstD y - cumN y k + 1, rfl, ⟨hy1, hy2, by omega, by omega, by omega, by omega⟩, ?_, rfl⟩
        unfold daysN
        rw [show ((k : Int) + 1).toNat - 1 = k by omega]
        omega
    · obtain rfl : k = 11 := by omega
      have hle : n - firstD y - cumN y 11 < mlen y 12 := by
        have e1 := hs.out
        have e2 := hlast.out
        have e3 : cumN y 12 = cumN y 11 + mlen y 12 := rfl
        split at e1 <;> split at e2 <;> omega
      go_wp2_with fail
      go_ret3
      refine ⟨y, 12, n - firstD y - cumN y 11 + 1, rfl, ⟨hy1, hy2, by omega, by omega, by omega, by omega⟩, ?_, rfl⟩
      unfold daysN
      rw [show (12 : Int).toNat - 1 = 11 by omega]
      omega
end Go.Proofs.YtodfajjkngjgdaaDoor
