/- CharsetCases, walked: it returns true and writes nothing that was there. Condition: the table of the forms holds what the program's text lays. -/
import Derived.Test.YtmmigpncoojobacDoorChH
import Derived.Test.YtmmigpncoojobacDoorFlat
namespace Go.Proofs.YtmmigpncoojobacDoor
open Go Go.RowKit Go.PlainAid

abbrev Laid (w : World) : Prop := Forms w
theorem len300 {t : ByteArray} (h : t.size ≤ 300) : t.size ≤ maxLen := by unfold maxLen; omega

/-- two rows of bytes that part in ASCII bytes alone are divided alike -/
theorem dec_alike {g g' : Nat → Int} (h : ∀ i, g i = g' i ∨ (g i < 128 ∧ g' i < 128)) (n : Nat) : (dec g n).2 = (dec g' n).2 := by
  have hf : ∀ i, fol (g i) = fol (g' i) := fun i => by
    rcases h i with e | ⟨e1, e2⟩
    · rw [e]
    · rw [Bool.eq_iff_iff, fol_iff, fol_iff]; omega
  have hv : ∀ i, fol (g' i) = true → g i = g' i := fun i hi => by
    rcases h i with e | ⟨e1, e2⟩
    · exact e
    · have := fol_iff.1 hi; omega
  by_cases hn : n = 0
  · subst hn; rw [dec_nil, dec_nil]
  rcases h 0 with e | ⟨e1, e2⟩
  rotate_left
  · rw [dec_one hn e1, dec_one hn e2]
  by_cases h1 : g' 0 < 128
  · rw [dec_one hn h1, dec_one hn (by omega)]
  by_cases h2 : 128 ≤ g' 0 ∧ g' 0 < 192 ∨ 248 ≤ g' 0
  · rw [dec_none h2, dec_none (by omega)]
  by_cases h3 : g' 0 < 224
  · rw [dec_two (g := g') hn (by omega) h3, dec_two (g := g) hn (by omega) (by omega), e, hf 1]
    by_cases f1 : fol (g' 1) = true
    · rw [hv 1 f1]
    · rw [if_neg (fun h => f1 h.2.1), if_neg (fun h => f1 h.2.1)]
  by_cases h4 : g' 0 < 240
  · rw [dec_three (g := g') hn (by omega) h4, dec_three (g := g) hn (by omega) (by omega), e, hf 1, hf 2]
    by_cases f1 : fol (g' 1) = true ∧ fol (g' 2) = true
    · rw [hv 1 f1.1, hv 2 f1.2]
    · rw [if_neg (fun h => f1 ⟨h.2.1, h.2.2.1⟩), if_neg (fun h => f1 ⟨h.2.1, h.2.2.1⟩)]
  · rw [dec_four (g := g') hn (by omega) (by omega), dec_four (g := g) hn (by omega) (by omega), e, hf 1, hf 2, hf 3]
    by_cases f1 : fol (g' 1) = true ∧ fol (g' 2) = true ∧ fol (g' 3) = true
    · rw [hv 1 f1.1, hv 2 f1.2.1, hv 3 f1.2.2]
    · rw [if_neg (fun h => f1 ⟨h.2.1, h.2.2.1, h.2.2.2.1⟩), if_neg (fun h => f1 ⟨h.2.1, h.2.2.1, h.2.2.2.1⟩)]

theorem first_alike {s t : ByteArray} (hs : s.size = t.size) (h : ∀ i, bt s i = bt t i ∨ (bt s i < 128 ∧ bt t i < 128)) (k : Nat) : first s k = first t k := by
  have hz : siz s k = siz t k := by
    unfold siz
    rw [hs]
    exact dec_alike (fun i => h (k + i)) _
  by_cases hk : k < s.size
  · by_cases h0 : siz s k = 0
    · rw [first_bad hk h0, first_bad (by omega) (by omega)]
    · rw [first_more hk h0, first_more (s := t) (by omega) (by omega), ← hz]
      have := siz_le s k
      exact first_alike hs h _
  · rw [first_end (by omega), first_end (by omega)]
termination_by s.size - k

theorem first_sh {f l t : Int} (h1 : 0 ≤ t) (h2 : l - f + t < 128) (hl : l < 128) (s : ByteArray) : first (shS f l t s) 0 = first s 0 := by
  refine first_alike (shS_size f l t s) (fun i => ?_) 0
  by_cases hi : i < s.size
  · rw [shS_bt h1 (by omega) s i hi]
    unfold sh
    split
    · right; omega
    · left; rfl
  · left
    rw [bt_end _ (by rw [shS_size]; omega), bt_end _ (by omega)]

set_option maxHeartbeats 4000000 in
theorem charsetCases_walk (s : ByteArray) (w : World) (hF : Laid w) (hs : s.size ≤ maxLen) :
    Calls Tryd.prog 9 #[.string s] w fun e w' => e = .returned (.bool true) ∧ Below w.heap.size w w' := by
  go_enter Tryd.func9, Tryd.ntmps9
  go_wp2_with fail
  refine (cut_any _ _ hs).mono ?_
  rintro e w' ⟨t, rfl, ht, rfl⟩
  have hm := hide (len300 ht)
  go_wp2_with fail
  refine (lower_any t _ hm.out).mono ?_
  rintro e w1 ⟨rfl, hb1⟩
  go_wp2_with fail
  refine (upper_any t _ hm.out).mono ?_
  rintro e w2 ⟨rfl, hb2⟩
  have hb2 := below_step hb1 hb2
  go_wp2_with fail
  refine (known_any _ (hF.below hb2)).mono ?_
  rintro e w3 ⟨rfl, hb3⟩
  have hb3 := below_step hb2 hb3
  have z1 := shS_size 65 90 97 t
  have z2 := shS_size 97 122 65 t
  have hl := get_bt (shS 65 90 97 t)
  have hu := get_bt (shS 97 122 65 t)
  have hc := get_bt t
  clear hb1 hb2
  go_wp2_with fail
  go_loopw [5] (fun i wr => ∃ k : Nat, k ≤ t.size ∧ i = .int .i64 k ∧ Below w.heap.size w wr) (fun i _ => t.size - (intOf i).toNat)
  case atStart => exact ⟨0, Nat.zero_le _, rfl, hb3⟩
  case round =>
    obtain ⟨k, hk, rfl, hb⟩ := hrel
    by_cases hlt : k < t.size
    · have x1 := shS_bt (f := 65) (l := 90) (t := 97) (by decide) (by decide) t k hlt
      have x2 := shS_bt (f := 97) (l := 122) (t := 65) (by decide) (by decide) t k hlt
      have b0 := bt_nonneg t k
      have b1 := bt_le t k
      by_cases c1 : 65 ≤ bt t k ∧ bt t k ≤ 90
      · rw [show sh 65 90 97 (bt t k) = bt t k + 32 by unfold sh; rw [if_pos c1]; omega] at x1
        rw [show sh 97 122 65 (bt t k) = bt t k from if_neg (by omega)] at x2
        obtain ⟨c1, c2⟩ := c1
        go_wp2_with fail
        go_quiet (fail)
        go_wp2_with fail
        go_roundw
        case rel => exact ⟨k + 1, by omega, by go_num, below_drewN hb _⟩
        case measure => simp [intOf]; omega
      by_cases c3 : 97 ≤ bt t k ∧ bt t k ≤ 122
      · rw [show sh 65 90 97 (bt t k) = bt t k from if_neg (by omega)] at x1
        rw [show sh 97 122 65 (bt t k) = bt t k - 32 by unfold sh; rw [if_pos c3]; omega] at x2
        obtain ⟨c3, c4⟩ := c3
        clear c1
        go_wp2_with fail
        go_quiet (fail)
        go_wp2_with fail
        go_roundw
        case rel => exact ⟨k + 1, by omega, by go_num, below_drewN hb _⟩
        case measure => simp [intOf]; omega
      · rw [show sh 65 90 97 (bt t k) = bt t k from if_neg c1] at x1
        rw [show sh 97 122 65 (bt t k) = bt t k from if_neg c3] at x2
        have hcase : bt t k < 65 ∨ (90 < bt t k ∧ bt t k < 97) ∨ 122 < bt t k := by omega
        clear c1 c3
        rcases hcase with c | ⟨c, c'⟩ | c
        all_goals
          go_wp2_with fail
          go_quiet (fail)
          go_wp2_with fail
          go_roundw
          case rel => exact ⟨k + 1, by omega, by go_num, below_drewN hb _⟩
          case measure => simp [intOf]; omega
    · have f1 := first_sh (f := 65) (l := 90) (t := 97) (by decide) (by decide) (by decide) t
      have f2 := first_sh (f := 97) (l := 122) (t := 65) (by decide) (by decide) (by decide) t
      have hFr := hF.below hb
      have hml : Hid ((shS 65 90 97 t).size ≤ maxLen) := by unfold Hid; rw [z1]; exact hm.out
      have hmu : Hid ((shS 97 122 65 t).size ≤ maxLen) := by unfold Hid; rw [z2]; exact hm.out
      go_wp2_with fail
      refine (first_any _ _ hFr hml.out).mono ?_
      rintro e w' ⟨rfl, m1, rfl⟩
      go_wp2_with fail
      refine (first_any _ _ (hFr.drewN _) hm.out).mono ?_
      rintro e w' ⟨rfl, m2, rfl⟩
      go_wp2_with fail
      refine (first_any _ _ (hFr.drewN _) hmu.out).mono ?_
      rintro e w' ⟨rfl, m3, rfl⟩
      go_wp2_with fail
      refine (first_any _ _ (hFr.drewN _) hm.out).mono ?_
      rintro e w' ⟨rfl, m4, rfl⟩
      go_wp2_with fail
      go_ret
      exact ⟨ret_bool (by simp), by first | exact below_drewN hb _ | exact below_drewN (below_drewN hb _) _ | exact below_drewN (below_drewN (below_drewN hb _) _) _⟩
end Go.Proofs.YtmmigpncoojobacDoor
