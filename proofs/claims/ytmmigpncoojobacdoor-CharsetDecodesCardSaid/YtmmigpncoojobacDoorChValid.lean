/- CharsetValid and CharsetDecodes, walked: they return true and write nothing that was there. Condition: the table of the forms holds what the program's text lays. -/
import Derived.Test.YtmmigpncoojobacDoorChH
import Derived.Test.YtmmigpncoojobacDoorFlat
namespace Go.Proofs.YtmmigpncoojobacDoor
open Go Go.RowKit Go.PlainAid

abbrev Laid (w : World) : Prop := Forms w
theorem len300 {t : ByteArray} (h : t.size ≤ 300) : t.size ≤ maxLen := by unfold maxLen; omega

set_option maxHeartbeats 2000000 in
theorem charsetValid_walk (s : ByteArray) (w : World) (hF : Laid w) (hs : s.size ≤ maxLen) :
    Calls Tryd.prog 3 #[.string s] w fun e w' => e = .returned (.bool true) ∧ Below w.heap.size w w' := by
  go_enter Tryd.func3, Tryd.ntmps3
  go_wp2_with fail
  refine (cut_any _ _ hs).mono ?_
  rintro e w' ⟨t, rfl, ht, rfl⟩
  have hm := hide (len300 ht)
  go_wp2_with fail
  refine (known_any _ hF).mono ?_
  rintro e w1 ⟨rfl, hb1⟩
  have hF1 := hF.below hb1
  go_wp2_with fail
  refine (first_any t _ hF1 hm.out).mono ?_
  rintro e w' ⟨rfl, m1, rfl⟩
  have hb2 := below_drewN hb1 m1
  have hF2 := hF.below hb2
  go_wp2_with fail
  refine (refFirst_any t _ hm.out).mono ?_
  rintro e w3 ⟨rfl, hb3⟩
  have hb4 := below_step hb2 hb3
  have hF4 := hF.below hb4
  go_wp2_with fail
  refine (valid_any t _ hF4 hm.out).mono ?_
  rintro e w' ⟨rfl, m2, rfl⟩
  have hb5 := below_drewN hb4 m2
  go_wp2_with fail
  refine (refFirst_any t _ hm.out).mono ?_
  rintro e w6 ⟨rfl, hb6⟩
  have hb7 := below_step hb5 hb6
  clear hb1 hb2 hb3 hb4 hb5 hb6 hF1 hF2 hF4
  go_wp2_with fail
  go_ret
  exact ⟨ret_bool (by simp), hb7⟩

set_option maxHeartbeats 4000000 in
theorem charsetDecodes_walk (s : ByteArray) (a : Int) (w : World) (hF : Laid w) (hs : s.size ≤ maxLen) (_wa : (Lit.int .i64 a).wf = true) :
    Calls Tryd.prog 4 #[.string s, .int .i64 a] w fun e w' => e = .returned (.bool true) ∧ Below w.heap.size w w' := by
  go_enter Tryd.func4, Tryd.ntmps4
  go_wp2_with fail
  refine (cut_any _ _ hs).mono ?_
  rintro e w' ⟨t, rfl, ht, rfl⟩
  have hm := hide (len300 ht)
  by_cases h1 : a < 0
  · go_wp2_with fail
    refine (decodeX_out t a _ hF hm.out (.inl h1)).mono ?_
    rintro e w' ⟨rfl, m1, rfl⟩
    go_wp2_with fail
    refine (known_any _ (hF.drewN _)).mono ?_
    rintro e w1 ⟨rfl, hb1⟩
    go_wp2_with fail
    go_ret
    exact ⟨rfl, drewN_below hb1⟩
  have h1' : 0 ≤ a := by omega
  by_cases h2 : t.size ≤ a
  · go_wp2_with fail
    refine (decodeX_out t a _ hF hm.out (.inr h2)).mono ?_
    rintro e w' ⟨rfl, m1, rfl⟩
    go_wp2_with fail
    refine (known_any _ (hF.drewN _)).mono ?_
    rintro e w1 ⟨rfl, hb1⟩
    go_wp2_with fail
    go_ret
    exact ⟨rfl, drewN_below hb1⟩
  obtain ⟨k, rfl⟩ := Int.eq_ofNat_of_zero_le h1'
  have hlt : k < t.size := by omega
  clear h1 h1' h2
  by_cases h0 : siz t k = 0
  · have hz : ((siz t k : Int) == 0) = true := by simp [h0]
    have H0 := hide h0
    clear h0
    go_wp2_with fail
    refine (decodeX_bad t k _ hF hm.out hlt H0.out).mono ?_
    rintro e w' ⟨rfl, m1, rfl⟩
    go_wp2_with fail
    refine (known_any _ (hF.drewN _)).mono ?_
    rintro e w1 ⟨rfl, hb1⟩
    go_wp2_with fail
    refine (refDec_at t k _ hm.out).mono ?_
    rintro e w2 ⟨rfl, hb2⟩
    go_wp2_with fail
    go_ret
    exact ⟨rfl, below_step (drewN_below hb1) hb2⟩
  · have hz : ((siz t k : Int) == 0) = false := by simp [h0]
    go_wp2_with fail
    refine (decodeX_ok t k _ hF hm.out hlt h0).mono ?_
    rintro e w' ⟨rfl, m1, rfl⟩
    go_wp2_with fail
    refine (known_any _ (hF.drewN _)).mono ?_
    rintro e w1 ⟨rfl, hb1⟩
    go_wp2_with fail
    refine (refDec_at t k _ hm.out).mono ?_
    rintro e w2 ⟨rfl, hb2⟩
    go_wp2_with fail
    go_ret
    exact ⟨ret_bool (by simp), below_step (drewN_below hb1) hb2⟩
end Go.Proofs.YtmmigpncoojobacDoor
