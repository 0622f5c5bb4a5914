/- CharsetASCII and CharsetLatin, walked: they return true and write nothing that was there. Condition: the table of the forms holds what the program's text lays. -/
import Derived.Test.YtmmigpncoojobacDoorChO
import Derived.Test.YtmmigpncoojobacDoorChM
namespace Go.Proofs.YtmmigpncoojobacDoor
open Go Go.RowKit Go.PlainAid

set_option maxHeartbeats 4000000 in
theorem charsetASCII_walk (s : ByteArray) (w : World) (hF : Laid w) (hs : s.size ≤ maxLen) :
    Calls Tryd.prog 11 #[.string s] w fun e w' => e = .returned (.bool true) ∧ Below w.heap.size w w' := by
  go_enter Tryd.func11, Tryd.ntmps11
  go_wp2_with fail
  refine (cut_any _ _ hs).mono ?_
  rintro e w' ⟨t, rfl, ht, rfl⟩
  have hm := hide (len300 ht)
  by_cases hv : 0 ≤ first t 0
  · go_wp2_with fail
    refine (toASCII_no t _ hF (by omega) hv).mono ?_
    rintro e w1 ⟨rfl, hb1⟩
    go_wp2_with fail
    refine (known_any _ (hF.below hb1)).mono ?_
    rintro e w2 ⟨rfl, hb2⟩
    have hb2 := below_step hb1 hb2
    clear hb1
    go_wp2_with fail
    refine (refFirst_any t _ hm.out).mono ?_
    rintro e w3 ⟨rfl, hb3⟩
    have hb3 := below_step hb2 hb3
    clear hb2
    go_wp2_with fail
    go_ret
    exact ⟨rfl, hb3⟩
  · have hV : Hid (first t 0 = -1) := by rcases first_cases t 0 with h | h; exact h; exact absurd (by simpa using h) hv
    have hf : (0 ≤ first t 0) = False := by simp [hv]
    clear hv
    have hpl := points_len t 0
    have hpt := hide (points_pts t 0)
    go_wp2_with fail
    refine (toASCII_ok t _ hF (by omega) hV.out).mono ?_
    rintro e w1 ⟨rfl, hb1⟩
    go_wp2_with fail
    refine (known_any _ (hF.below hb1)).mono ?_
    rintro e w2 ⟨rfl, hb2⟩
    have hb2 := below_step hb1 hb2
    clear hb1
    go_wp2_with fail
    refine (refFirst_any t _ hm.out).mono ?_
    rintro e w3 ⟨rfl, hb3⟩
    have hb3 := below_step hb2 hb3
    clear hb2
    go_wp2_with fail
    refine (refPoints_any t _ (by omega)).mono ?_
    rintro e w4 ⟨hb4, v, rfl, hown⟩
    have hb4 := below_step hb3 hb4
    have I := IntsAt.own hown
    clear hb3 hown
    generalize hl : points t 0 = l at *
    have HL := hide hl
    clear hl
    have za : (strOfNums (l.map asc)).size = l.length := by rw [nums_size]; simp
    have hga := get_bt (strOfNums (l.map asc))
    have J := I
    obtain ⟨A, c, rfl, _⟩ := J
    have hml := many_le l
    go_wp2_with fail
    go_loop [7, 8] (fun r i => ∃ (k : Nat), k ≤ l.length ∧ i = .int .i64 k ∧ r = .int .i64 (many (l.take k))) (fun _ i => l.length - (intOf i).toNat)
    case atStart => exact ⟨0, Nat.zero_le _, rfl, by simp [many]⟩
    case round =>
      obtain ⟨k, hk, rfl, rfl⟩ := hrel
      by_cases hlt : k < l.length
      · obtain ⟨g, off, c', hv, _, hcell⟩ := I.at_ hlt
        injection hv with e1 e2 e3
        subst e1 e3
        clear e2
        have hgp := getD_pt hpt.out hlt
        have hmm := many_more l k hlt
        have hmk := many_le (l.take k)
        have htk : (l.take k).length ≤ k := List.length_take_le _ _
        have hbt : bt (strOfNums (l.map asc)) k = asc (l.getD k 0) := by
          rw [bt_nums (fun n hn => by
            obtain ⟨p, hp, rfl⟩ := List.mem_map.1 hn
            have := isPt_iff.1 (hpt.out p hp)
            unfold asc; split <;> omega)]
          simp [List.getD, hlt]
        generalize hx : l.getD k 0 = x at hcell hgp hmm hbt
        obtain ⟨g0, g1⟩ := hgp
        by_cases h8 : 128 ≤ x
        · have hM := hide (show many (l.take (k + 1)) = many (l.take k) + 1 by rw [hmm, if_pos h8])
          rw [show asc x = 63 from if_pos h8] at hbt
          clear hmm hx
          go_wp2_with fail
          go_round
          case rel => exact ⟨k + 1, by omega, by go_num, by rw [hM.out]; go_num⟩
          case measure => simp [intOf]; omega
        · have hM := hide (show many (l.take (k + 1)) = many (l.take k) by rw [hmm, if_neg h8]; rfl)
          rw [show asc x = x from if_neg h8] at hbt
          clear hmm hx
          go_wp2_with fail
          go_round
          case rel => exact ⟨k + 1, by omega, by go_num, by rw [hM.out]⟩
          case measure => simp [intOf]; omega
      · obtain rfl : k = l.length := by omega
        have e1 : l.take l.length = l := List.take_length
        go_wp2_with fail
        go_ret
        exact ⟨ret_bool (by simp), hb4⟩
end Go.Proofs.YtmmigpncoojobacDoor
