/- What the reference's Points returns; CharsetPoints, walked. Conditions: the table of the forms holds what the program's text lays; texts of at most 2^40 bytes. -/
import Derived.Test.YtmmigpncoojobacDoorChL
import Derived.Test.YtmmigpncoojobacDoorFlat
namespace Go.Proofs.YtmmigpncoojobacDoor
open Go Go.RowKit Go.PlainAid

theorem own_below {w w' : World} {B e size n : Nat} {v : Value} {xs : List Value} (h : w.ownsRow B e size v n xs) (hb : Below w.heap.size w w') : w'.ownsRow B e size v n xs := by
  refine ⟨h.1, ?_⟩
  rcases h.2 with hn | ⟨g, cap, cur, rfl, hB, hg, rest⟩
  · exact .inl hn
  · exact .inr ⟨g, cap, cur, rfl, hB, (hb.block g (Array.getElem?_eq_some_iff.1 hg).1).trans hg, rest⟩

set_option maxHeartbeats 2000000 in
theorem refPoints_any (s : ByteArray) (w : World) (hs : s.size ≤ 1099511627776) :
    Calls Tryd.prog 28 #[.string s] w fun e w' => Below w.heap.size w w' ∧ ∃ v, e = .returned v ∧ w'.ownsRow w.heap.size 3 1 v (points s 0).length ((points s 0).map (Value.int .i64)) := by
  have hm : Hid (s.size ≤ maxLen) := by unfold Hid maxLen; omega
  obtain ⟨i0, hi, hz0, hz1, hz2⟩ := info_parts (show (Tryd.prog.info? 3).map (fun i => (i.zero, i.size, i.bytes)) = some (some (.int .i64 0), 1, 8) by kernel_rfl)
  go_enter Tryd.func28, Tryd.ntmps28
  go_wp2_with fail
  go_loopw [3, 4] (fun v a wr => ∃ (k : Nat) (c : List Int), k ≤ s.size ∧ a = .int .i64 k ∧ c.length ≤ k ∧ wr.ownsRow w.heap.size 3 1 v c.length (c.map (Value.int .i64)) ∧ Below w.heap.size w wr ∧ Hid (points s 0 = c ++ points s k))
    (fun _ a _ => s.size - (intOf a).toNat)
  case atStart => exact ⟨0, [], Nat.zero_le _, rfl, Nat.zero_le _, World.ownsRow_nil _ _ _ _, Below.refl _ _, rfl⟩
  case round =>
    obtain ⟨k, c, hk, rfl, hck, hown, hb, hp⟩ := hrel
    by_cases hlt : k < s.size
    · have hz := siz_le s k
      by_cases h0 : siz s k = 0
      · have ht : ((siz s k : Int) == 0) = true := by simp [h0]
        have hr := hide (points_bad h0)
        clear h0
        go_wp2_with (go_at_call 20; refine (refDec_at _ _ _ hm.out).mono ?_; rintro e w1 ⟨rfl, hb1⟩)
        go_ret
        have e2 := hp.out
        rw [hr.out, List.append_nil] at e2
        exact ⟨below_step hb hb1, _, rfl, by rw [e2]; exact own_below hown hb1⟩
      · have ht : ((siz s k : Int) == 0) = false := by simp [h0]
        have hr2 := hide (points_more hlt h0)
        go_wp2_with fail
        refine (refDec_at _ _ _ hm.out).mono ?_
        rintro e w1 ⟨rfl, hb1⟩
        have hown1 := own_below hown hb1
        have hb2 := below_step hb hb1
        clear hb1 hown hb
        go_wp2_with (at_builtin; refine wpList_append_own _ rfl _ _ 36 rfl w.heap.size 3 i0 (.int .i64 0) 1 8 Tryd.underlying36 hi hz0 hz1 hz2 rfl (by decide) _ _ _ rfl (hown1.alloc _) ⟨w1.heap.size, 0, none⟩ 1 1 [.int .i64 (cp s k)] rfl rfl ?c1 ?c2 ?c3 ?c4 ?c5 ?_)
        case c1 => exact cell_one_new w1 _ _
        case c2 => intro u hu; simp at hu; subst hu; rfl
        case c3 => unfold maxLen; omega
        case c4 => omega
        case c5 => have := hb2.size; simp; omega
        intro v' w2 hown' hgrow _
        have R := row_more 0 _ hb2 hown1 hown' hgrow
        clear hown' hgrow
        go_wp2_with fail
        go_roundw
        case rel => exact ⟨k + siz s k, c ++ [cp s k], by omega, by go_num, by simp; omega, R.1, R.2, by rw [hp.out, hr2.out]; simp [Hid]⟩
        case measure => simp [intOf]; omega
    · have hr2 := hide (points_end (s := s) (k := k) (by omega))
      go_wp2_with fail
      go_ret
      have e2 := hp.out
      rw [hr2.out, List.append_nil] at e2
      exact ⟨hb, _, rfl, by rw [e2]; exact hown⟩

abbrev Laid (w : World) : Prop := Forms w
theorem len300 {t : ByteArray} (h : t.size ≤ 300) : t.size ≤ maxLen := by unfold maxLen; omega

set_option maxHeartbeats 4000000 in
theorem charsetPoints_walk (s : ByteArray) (w : World) (hF : Laid w) (hs : s.size ≤ maxLen) :
    Calls Tryd.prog 6 #[.string s] w fun e w' => e = .returned (.bool true) ∧ Below w.heap.size w w' := by
  go_enter Tryd.func6, Tryd.ntmps6
  go_wp2_with fail
  refine (cut_any _ _ hs).mono ?_
  rintro e w' ⟨t, rfl, ht, rfl⟩
  have hm := hide (len300 ht)
  go_wp2_with fail
  refine (points_any t _ hF (by omega)).mono ?_
  rintro e w1 ⟨hb1, ⟨hv, v, rfl, hown⟩ | ⟨hv, rfl⟩⟩
  · have hV := hide hv
    clear hv
    have I1 := IntsAt.own hown
    have hpl := points_len t 0
    have J := I1
    obtain ⟨A, c, rfl, _⟩ := J
    have hF1 := hF.below hb1
    go_wp2_with fail
    refine (count_ok t _ hF1 hm.out hV.out).mono ?_
    rintro e w' ⟨rfl, m1, rfl⟩
    go_wp2_with fail
    refine (known_any _ (hF1.drewN _)).mono ?_
    rintro e w2 ⟨rfl, hb2⟩
    have hb2' : Below w1.heap.size w1 w2 := drewN_below (n := m1) hb2
    have I2 := (I1.below hb2').more hb2'.size
    have hb3 := below_step hb1 hb2'
    go_wp2_with fail
    refine (refFirst_any t _ hm.out).mono ?_
    rintro e w3 ⟨rfl, hb4⟩
    have hf : (0 ≤ first t 0) = False := by rw [hV.out]; simp
    have I3 := (I2.below hb4).more hb4.size
    have hb5 := below_step hb3 hb4
    have hF3 := hF.below hb5
    clear hb1 hb2 hb2' hb3 hb4 I1 I2 hown hF1
    go_wp2_with fail
    refine (text_any _ (points t 0) _ hF3 I3 (by omega)).mono ?_
    rintro e w4 ⟨hb6, ⟨_, he⟩ | ⟨⟨q, hq, hq'⟩, _⟩⟩
    rotate_left
    · rw [points_pts t 0 q hq] at hq'; cases hq'
    rw [text_points hV.out] at he
    subst he
    have I4 := (I3.below hb6).more hb6.size
    have hb7 := below_step hb5 hb6
    clear hb6 hb5 I3 hF3
    go_wp2_with fail
    refine (refPoints_any t _ (by omega)).mono ?_
    rintro e w5 ⟨hb8, v2, rfl, hown2⟩
    have I5 := (I4.below hb8).more hb8.size
    have K5 := IntsAt.own hown2
    have hb9 := below_step hb7 hb8
    clear hb8 hb7 I4 hown2
    go_wp2_with fail
    refine (same_any _ _ (points t 0) _ I5 K5 (by omega)).mono ?_
    rintro e w' ⟨rfl, m2, rfl⟩
    have hb10 := below_drewN hb9 m2
    clear hb9 I5 K5
    go_wp2_with fail
    go_ret
    exact ⟨ret_bool (by simp), hb10⟩
  · have hF1 := hF.below hb1
    go_wp2_with fail
    refine (count_no t _ hF1 hm.out hv).mono ?_
    rintro e w' ⟨rfl, m1, rfl⟩
    go_wp2_with fail
    refine (known_any _ (hF1.drewN _)).mono ?_
    rintro e w2 ⟨rfl, hb2⟩
    have hb3 := below_step hb1 (drewN_below (w := w1) (n := m1) hb2)
    go_wp2_with fail
    refine (refFirst_any t _ hm.out).mono ?_
    rintro e w3 ⟨rfl, hb4⟩
    have hb5 := below_step hb3 hb4
    clear hb1 hb2 hb3 hb4 hF1
    go_wp2_with fail
    go_ret
    exact ⟨rfl, hb5⟩
end Go.Proofs.YtmmigpncoojobacDoor
