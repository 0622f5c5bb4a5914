/- What the reference's Decode returns at a first byte of one more form. No condition but that the text is one. -/
import Derived.Test.YtmmigpncoojobacDoorChG
import Derived.Deep.RegionWith
namespace Go.Proofs.YtmmigpncoojobacDoor
open Go Go.RowKit Go.PlainAid
set_option maxHeartbeats 4000000 in
theorem refDec_four (s : ByteArray) (w : World) (hs : s.size ≤ maxLen) (h : 0 < s.size) (h1 : 240 ≤ bt s 0) (h2 : bt s 0 < 248) : RefDec s w := by
  unfold RefDec
  unfold maxLen at hs
  have hd := cp_four h h1 h2
  simp only [Nat.zero_add, Nat.sub_zero] at hd
  have hB := get_bt s
  have b0 := bt_nonneg s 0
  have b1 := bt_le s 0
  have he := nonempty_list h
  have he' : ¬ s.toList = [] := by simpa using he
  have c1 := bt_nonneg s 1
  have d1 := bt_le s 1
  have c2 := bt_nonneg s 2
  have d2 := bt_le s 2
  have c3 := bt_nonneg s 3
  have d3 := bt_le s 3
  by_cases hz : s.size < 4
  · rw [if_neg (fun h => absurd h.1 (by omega)), Prod.mk.injEq] at hd
    rw [hd.1, hd.2]
    clear hd
    go_enter Tryd.func20, Tryd.ntmps20
    go_wp2_with fail
    go_ret2
    exact ⟨rfl, Below.refl _ _⟩
  by_cases e1 : bt s 1 < 128
  · rw [if_neg (fun h => by have := fol_iff.1 (h.2.1); omega), Prod.mk.injEq] at hd
    rw [hd.1, hd.2]
    clear hd
    go_enter Tryd.func20, Tryd.ntmps20
    go_wp2_with fail
    refine wp_loop_rounds 1 ?_
    rw [rounds_succ]
    go_wp2_with fail
    go_ret2
    exact ⟨rfl, Below.refl _ _⟩
  by_cases f1 : 192 ≤ bt s 1
  · rw [if_neg (fun h => by have := fol_iff.1 (h.2.1); omega), Prod.mk.injEq] at hd
    rw [hd.1, hd.2]
    clear hd
    go_enter Tryd.func20, Tryd.ntmps20
    go_wp2_with fail
    refine wp_loop_rounds 1 ?_
    rw [rounds_succ]
    go_wp2_with fail
    go_ret2
    exact ⟨rfl, Below.refl _ _⟩
  by_cases e2 : bt s 2 < 128
  · rw [if_neg (fun h => by have := fol_iff.1 (h.2.2.1); omega), Prod.mk.injEq] at hd
    rw [hd.1, hd.2]
    clear hd
    go_enter Tryd.func20, Tryd.ntmps20
    go_wp2_with fail
    refine wp_loop_rounds 2 ?_
    rw [rounds_succ]
    go_wp2_with fail
    rw [rounds_succ]
    go_wp2_with fail
    go_ret2
    exact ⟨rfl, Below.refl _ _⟩
  by_cases f2 : 192 ≤ bt s 2
  · rw [if_neg (fun h => by have := fol_iff.1 (h.2.2.1); omega), Prod.mk.injEq] at hd
    rw [hd.1, hd.2]
    clear hd
    go_enter Tryd.func20, Tryd.ntmps20
    go_wp2_with fail
    refine wp_loop_rounds 2 ?_
    rw [rounds_succ]
    go_wp2_with fail
    rw [rounds_succ]
    go_wp2_with fail
    go_ret2
    exact ⟨rfl, Below.refl _ _⟩
  by_cases e3 : bt s 3 < 128
  · rw [if_neg (fun h => by have := fol_iff.1 (h.2.2.2.1); omega), Prod.mk.injEq] at hd
    rw [hd.1, hd.2]
    clear hd
    go_enter Tryd.func20, Tryd.ntmps20
    go_wp2_with fail
    refine wp_loop_rounds 3 ?_
    rw [rounds_succ]
    go_wp2_with fail
    rw [rounds_succ]
    go_wp2_with fail
    rw [rounds_succ]
    go_wp2_with fail
    go_ret2
    exact ⟨rfl, Below.refl _ _⟩
  by_cases f3 : 192 ≤ bt s 3
  · rw [if_neg (fun h => by have := fol_iff.1 (h.2.2.2.1); omega), Prod.mk.injEq] at hd
    rw [hd.1, hd.2]
    clear hd
    go_enter Tryd.func20, Tryd.ntmps20
    go_wp2_with fail
    refine wp_loop_rounds 3 ?_
    rw [rounds_succ]
    go_wp2_with fail
    rw [rounds_succ]
    go_wp2_with fail
    rw [rounds_succ]
    go_wp2_with fail
    go_ret2
    exact ⟨rfl, Below.refl _ _⟩
  rw [show (((bt s 0 - 240) * 64 + (bt s (1) - 128)) * 64 + (bt s (2) - 128)) * 64 + (bt s (3) - 128) = 64 * (64 * (64 * (bt s 0 - 240) + bt s 1 - 128) + bt s 2 - 128) + bt s 3 - 128 by omega] at hd
  cases hp : isPt (64 * (64 * (64 * (bt s 0 - 240) + bt s 1 - 128) + bt s 2 - 128) + bt s 3 - 128)
  · rw [if_neg (fun h => by have := h.2.2.2.2.2; rw [hp] at this; cases this), Prod.mk.injEq] at hd
    rw [hd.1, hd.2]
    clear hd
    go_enter Tryd.func20, Tryd.ntmps20
    go_wp2_with fail
    refine wp_loop_rounds 4 ?_
    rw [rounds_succ]
    go_wp2_with fail
    rw [rounds_succ]
    go_wp2_with fail
    rw [rounds_succ]
    go_wp2_with fail
    rw [rounds_succ]
    go_wp2_with fail
    go_quiet ((go_at_call 22; exact Calls.quiet_of_same ((refIsPoint_any _ _).mono fun _ _ h => ⟨h.1, h.2.symm⟩)))
    go_wp2_with fail
    go_ret2
    exact ⟨rfl, below_drewN (Below.refl _ _) _⟩
  have hp' := isPt_iff.1 hp
  have hpl := hp'.1
  have hpu := hp'.2.1
  by_cases hl : 65536 ≤ 64 * (64 * (64 * (bt s 0 - 240) + bt s 1 - 128) + bt s 2 - 128) + bt s 3 - 128
  · have hq := enc_yes (s := s) (p := 64 * (64 * (64 * (bt s 0 - 240) + bt s 1 - 128) + bt s 2 - 128) + bt s 3 - 128) 4 (by omega) (by
      unfold encL
      rw [if_neg (by omega), if_neg (by omega), if_neg (by omega)]
      show _ = [bt s 0, bt s 1, bt s 2, bt s 3]
      simp only [List.cons.injEq, and_true]
      omega)
    rw [if_pos ⟨by omega, fol_iff.2 ⟨by omega, by omega⟩, fol_iff.2 ⟨by omega, by omega⟩, fol_iff.2 ⟨by omega, by omega⟩, hl, hp⟩, Prod.mk.injEq] at hd
    rw [hd.1, hd.2]
    clear hd hp'
    go_enter Tryd.func20, Tryd.ntmps20
    go_wp2_with fail
    refine wp_loop_rounds 4 ?_
    rw [rounds_succ]
    go_wp2_with fail
    rw [rounds_succ]
    go_wp2_with fail
    rw [rounds_succ]
    go_wp2_with fail
    rw [rounds_succ]
    go_wp2_with fail
    go_region_with (first | (go_at_call 22; refine (refIsPoint_any _ _).mono ?_; rintro e w' ⟨rfl, rfl⟩) | (go_at_call 23; refine (refEncode_any _ _ (by omega) (by omega)).mono ?_; rintro e w' ⟨rfl, hbw⟩))
    go_wp2_with fail
    go_ret2
    exact ⟨rfl, by first | exact below_drewN hbw _ | exact hbw | exact drewN_below hbw⟩
  · have hq := enc_no (s := s) (p := 64 * (64 * (64 * (bt s 0 - 240) + bt s 1 - 128) + bt s 2 - 128) + bt s 3 - 128) 4 (by omega) (by
      unfold encL
      repeat' split
      all_goals (simp only [List.length_cons, List.length_nil]; omega))
    rw [if_neg (fun h => hl h.2.2.2.2.1), Prod.mk.injEq] at hd
    rw [hd.1, hd.2]
    clear hd
    clear hp'
    go_enter Tryd.func20, Tryd.ntmps20
    go_wp2_with fail
    refine wp_loop_rounds 4 ?_
    rw [rounds_succ]
    go_wp2_with fail
    rw [rounds_succ]
    go_wp2_with fail
    rw [rounds_succ]
    go_wp2_with fail
    rw [rounds_succ]
    go_wp2_with fail
    go_region_with (first | (go_at_call 22; refine (refIsPoint_any _ _).mono ?_; rintro e w' ⟨rfl, rfl⟩) | (go_at_call 23; refine (refEncode_any _ _ (by omega) (by omega)).mono ?_; rintro e w' ⟨rfl, hbw⟩))
    go_wp2_with fail
    go_ret2
    exact ⟨rfl, by first | exact below_drewN hbw _ | exact hbw | exact drewN_below hbw⟩

end Go.Proofs.YtmmigpncoojobacDoor
