/- CharsetCuts, walked: it returns true and writes nothing that was there. Condition: the table of the forms holds what the program's text lays. -/
import Derived.Test.YtmmigpncoojobacDoorChL
import Derived.Test.YtmmigpncoojobacDoorFlat
namespace Go.Proofs.YtmmigpncoojobacDoor
open Go Go.RowKit Go.PlainAid
abbrev Laid (w : World) : Prop := Forms w
theorem len300 {t : ByteArray} (h : t.size ≤ 300) : t.size ≤ maxLen := by unfold maxLen; omega

/-- where the encodings of s begin and end -/
inductive Bnd (s : ByteArray) : Nat → Prop
  | zero : Bnd s 0
  | step {k : Nat} : Bnd s k → k < s.size → siz s k ≠ 0 → Bnd s (k + siz s k)

theorem Bnd.valid {s : ByteArray} (hv : first s 0 = -1) {k : Nat} (h : Bnd s k) : first s k = -1 := by
  induction h with
  | zero => exact hv
  | step _ hk hz ih => rw [first_more hk hz] at ih; exact ih
theorem Bnd.siz {s : ByteArray} (hv : first s 0 = -1) {k : Nat} (h : Bnd s k) (hk : k < s.size) : siz s k ≠ 0 := by
  intro h0
  have := h.valid hv
  rw [first_bad hk h0] at this
  omega
theorem Bnd.lead {s : ByteArray} (hv : first s 0 = -1) {k : Nat} (h : Bnd s k) (hk : k < s.size) : fol (bt s k) = false := (siz_fol (h.siz hv hk)).1
theorem Bnd.find_from {s : ByteArray} (hv : first s 0 = -1) {n k : Nat} (hn : n ≤ s.size) (h : Bnd s k) (hk : k ≤ n) : ∃ m, Bnd s m ∧ m ≤ n ∧ (m = n ∨ (m < s.size ∧ n < m + Go.Proofs.YtmmigpncoojobacDoor.siz s m)) := by
  by_cases e : k = n
  · exact ⟨k, h, hk, .inl e⟩
  · have hlt : k < s.size := by omega
    have hz := h.siz hv hlt
    by_cases hc : k + Go.Proofs.YtmmigpncoojobacDoor.siz s k ≤ n
    · exact Bnd.find_from hv hn (.step h hlt hz) hc
    · exact ⟨k, h, hk, .inr ⟨hlt, by omega⟩⟩
termination_by n - k
theorem Bnd.find {s : ByteArray} (hv : first s 0 = -1) {n : Nat} (hn : n ≤ s.size) : ∃ m, Bnd s m ∧ m ≤ n ∧ ∀ j, m < j → j ≤ n → ¬ Bnd s j ∧ j < s.size ∧ fol (bt s j) = true := by
  obtain ⟨m, hm, hmn, h⟩ := Bnd.find_from hv hn .zero (Nat.zero_le n)
  refine ⟨m, hm, hmn, fun j h1 h2 => ?_⟩
  rcases h with rfl | ⟨hlt, h⟩
  · omega
  · have hz := siz_le s m
    have hf := (siz_fol (hm.siz hv hlt)).2 j h1 (by omega)
    refine ⟨fun hb => ?_, by omega, hf⟩
    have := hb.lead hv (by omega)
    rw [hf] at this
    cases this

theorem dec_prefix {g g' : Nat → Int} {n n' : Nat} (hn : n' ≤ n) (hg : ∀ i, i < n' → g' i = g i) (h0 : n' ≠ 0) (hd : (dec g n).2 ≠ 0) :
    (dec g' n').2 = if (dec g n).2 ≤ n' then (dec g n).2 else 0 := by
  have e0 := hg 0 (by omega)
  have hn0 : n ≠ 0 := by omega
  by_cases c1 : g 0 < 128
  · rw [dec_one hn0 c1, dec_one h0 (by omega)]
    simp; omega
  by_cases c0 : 128 ≤ g 0 ∧ g 0 < 192 ∨ 248 ≤ g 0
  · rw [dec_none c0] at hd; exact absurd rfl hd
  by_cases c2 : g 0 < 224
  · rw [dec_two hn0 (by omega) c2] at hd ⊢
    rw [dec_two (g := g') h0 (by omega) (by omega)]
    split at hd
    · rename_i hc
      rw [if_pos hc]
      by_cases h2 : 2 ≤ n'
      · rw [e0, hg 1 (by omega), if_pos ⟨h2, hc.2⟩, if_pos h2]
      · rw [if_neg (fun h => h2 h.1), if_neg h2]
    · exact absurd rfl hd
  by_cases c3 : g 0 < 240
  · rw [dec_three hn0 (by omega) c3] at hd ⊢
    rw [dec_three (g := g') h0 (by omega) (by omega)]
    split at hd
    · rename_i hc
      rw [if_pos hc]
      by_cases h2 : 3 ≤ n'
      · rw [e0, hg 1 (by omega), hg 2 (by omega), if_pos ⟨h2, hc.2⟩, if_pos h2]
      · rw [if_neg (fun h => h2 h.1), if_neg h2]
    · exact absurd rfl hd
  · rw [dec_four hn0 (by omega) (by omega)] at hd ⊢
    rw [dec_four (g := g') h0 (by omega) (by omega)]
    split at hd
    · rename_i hc
      rw [if_pos hc]
      by_cases h2 : 4 ≤ n'
      · rw [e0, hg 1 (by omega), hg 2 (by omega), hg 3 (by omega), if_pos ⟨h2, hc.2⟩, if_pos h2]
      · rw [if_neg (fun h => h2 h.1), if_neg h2]
    · exact absurd rfl hd

theorem pre_size {s : ByteArray} {n : Nat} (hn : n ≤ s.size) : (s.extract 0 n).size = n := by
  rw [← size_list, extract_take, List.length_take, size_list]; omega
theorem pre_bt {s : ByteArray} {n i : Nat} (hi : i < n) : bt (s.extract 0 n) i = bt s i := by
  rw [bt_list, bt_list, extract_take, List.getElem?_take, if_pos hi]
theorem pre_siz {s : ByteArray} {n k : Nat} (hn : n ≤ s.size) (hk : k < n) (hz : siz s k ≠ 0) : siz (s.extract 0 n) k = if k + siz s k ≤ n then siz s k else 0 := by
  have := dec_prefix (g := from_ s k) (g' := from_ (s.extract 0 n) k) (n := s.size - k) (n' := n - k) (by omega) (fun i hi => pre_bt (by omega)) (by omega) hz
  have e : siz (s.extract 0 n) k = (dec (from_ (s.extract 0 n) k) (n - k)).2 := by unfold siz; rw [pre_size hn]
  rw [e, this]
  show (if siz s k ≤ n - k then siz s k else 0) = _
  by_cases h : k + siz s k ≤ n
  · rw [if_pos h, if_pos (by omega)]
  · rw [if_neg h, if_neg (by omega)]
theorem pre_first {s : ByteArray} (hv : first s 0 = -1) {n k : Nat} (hn : n ≤ s.size) (h : Bnd s k) (hk : k ≤ n) : (Bnd s n → first (s.extract 0 n) k = -1) ∧ (¬ Bnd s n → 0 ≤ first (s.extract 0 n) k) := by
  by_cases e : k = n
  · subst e
    exact ⟨fun _ => first_end (by rw [pre_size hn]; exact Nat.le_refl _), fun hb => absurd h hb⟩
  · have hlt : k < s.size := by omega
    have hz := h.siz hv hlt
    have hp := pre_siz hn (show k < n by omega) hz
    have hs := siz_le s k
    have hps := pre_size hn
    by_cases hc : k + Go.Proofs.YtmmigpncoojobacDoor.siz s k ≤ n
    · rw [if_pos hc] at hp
      rw [first_more (by omega) (by omega), hp]
      exact pre_first hv hn (.step h hlt hz) hc
    · rw [if_neg hc] at hp
      rw [first_bad (by omega) hp]
      refine ⟨fun hb => ?_, fun _ => by omega⟩
      have h1 := hb.lead hv (by omega)
      rw [(siz_fol hz).2 n (by omega) (by omega)] at h1
      cases h1
termination_by n - k
theorem pre_self (s : ByteArray) : s.extract 0 s.size = s := by
  apply ByteArray.ext
  apply Array.toList_inj.1
  rw [extract_take, List.take_of_length_le (by rw [size_list]; exact Nat.le_refl _)]

set_option maxHeartbeats 2000000 in
theorem cut_range (s : ByteArray) (most : Int) (w : World) (h : most < 0) :
    Calls Tryd.prog 34 #[.string s, .int .i64 most] w fun e w' => e = .returned (.tuple #[.string ⟨#[]⟩, .int .i64 2]) ∧ ∃ n, w' = w.drewN n := by
  go_enter Tryd.func34, Tryd.ntmps34
  go_wp2_with fail
  go_ret2
  exact ⟨rfl, 0, rfl⟩
set_option maxHeartbeats 2000000 in
theorem cut_text (s : ByteArray) (most : Int) (w : World) (hF : Forms w) (hs : s.size ≤ maxLen) (h : 0 ≤ most) (hv : 0 ≤ first s 0) :
    Calls Tryd.prog 34 #[.string s, .int .i64 most] w fun e w' => e = .returned (.tuple #[.string ⟨#[]⟩, .int .i64 16]) ∧ ∃ n, w' = w.drewN n := by
  have hd : decide (first s 0 < 0) = false := by simp; exact hv
  clear hv
  go_enter Tryd.func34, Tryd.ntmps34
  go_wp2_with fail
  refine (valid_any s _ hF hs).mono ?_
  rintro e w' ⟨rfl, m, rfl⟩
  go_wp2_with fail
  go_ret2
  exact ⟨rfl, _, rfl⟩
set_option maxHeartbeats 2000000 in
theorem cut_all (s : ByteArray) (most : Int) (w : World) (hF : Forms w) (hs : s.size ≤ maxLen) (h : s.size ≤ most) (hv : first s 0 = -1) :
    Calls Tryd.prog 34 #[.string s, .int .i64 most] w fun e w' => e = .returned (.tuple #[.string s, .int .i64 0]) ∧ ∃ n, w' = w.drewN n := by
  have hd : decide (first s 0 < 0) = true := by rw [hv]; rfl
  have h0 : 0 ≤ most := by omega
  clear hv
  go_enter Tryd.func34, Tryd.ntmps34
  go_wp2_with fail
  refine (valid_any s _ hF hs).mono ?_
  rintro e w' ⟨rfl, m, rfl⟩
  go_wp2_with fail
  go_ret2
  exact ⟨rfl, _, rfl⟩
set_option maxHeartbeats 2000000 in
theorem cut_some (s : ByteArray) (most n0 : Nat) (w : World) (hF : Forms w) (hs : s.size ≤ maxLen) (h : most < s.size) (hv : first s 0 = -1) (hb : Bnd s n0) (hn : n0 ≤ most) (hj : ∀ j, n0 < j → j ≤ most → fol (bt s j) = true) :
    Calls Tryd.prog 34 #[.string s, .int .i64 most] w fun e w' => e = .returned (.tuple #[.string (s.extract 0 n0), .int .i64 0]) ∧ ∃ n, w' = w.drewN n := by
  have hd : decide (first s 0 < 0) = true := by rw [hv]; rfl
  have hV := hide hv
  have hJ := hide hj
  have hm := hide hs
  unfold maxLen at hs
  have hB := get_bt s
  have q1 : decide ((most : Int) < 0) = false := by simp
  have q2 : decide (s.size ≤ most) = false := by simp; omega
  clear hv hj
  go_enter Tryd.func34, Tryd.ntmps34
  go_wp2_with fail
  refine (valid_any s _ hF hm.out).mono ?_
  rintro e w' ⟨rfl, m, rfl⟩
  go_wp2_with fail
  clear hd
  go_loop [1] (fun v => ∃ k : Nat, n0 ≤ k ∧ k ≤ most ∧ v = .int .i64 k) (fun v => (intOf v).toNat)
  case atStart => exact ⟨most, hn, Nat.le_refl _, rfl⟩
  case round =>
    obtain ⟨k, hk0, hk, rfl⟩ := hrel
    have b0 := bt_nonneg s k
    have b1 := bt_le s k
    by_cases hc : k = n0
    · subst hc
      have hf := hb.lead hV.out (by omega)
      go_wp2_with (go_at_call 38; refine (isFollowing_any _ _ (by omega) (by omega)).mono ?_; rintro e w' ⟨rfl, rfl⟩)
      go_ret2
      exact ⟨rfl, _, rfl⟩
    · have hf := hJ.out k (by omega) hk
      go_wp2_with (go_at_call 38; refine (isFollowing_any _ _ (by omega) (by omega)).mono ?_; rintro e w' ⟨rfl, rfl⟩)
      go_round
      case rel => exact ⟨k - 1, by omega, by omega, by rw [show ((k - 1 : Nat) : Int) = (k : Int) - 1 by omega]⟩
      case measure => simp [intOf]; omega

set_option maxHeartbeats 4000000 in
theorem charsetCuts_walk (s : ByteArray) (most : Int) (w : World) (hF : Laid w) (hs : s.size ≤ maxLen) (_wm : (Lit.int .i64 most).wf = true) :
    Calls Tryd.prog 12 #[.string s, .int .i64 most] w fun e w' => e = .returned (.bool true) ∧ Below w.heap.size w w' := by
  go_enter Tryd.func12, Tryd.ntmps12
  go_wp2_with fail
  refine (cut_any _ _ hs).mono ?_
  rintro e w' ⟨t, rfl, ht, rfl⟩
  have hm := hide (len300 ht)
  by_cases h0 : most < 0
  · go_wp2_with fail
    refine (cut_range t most _ h0).mono ?_
    rintro e w' ⟨rfl, m1, rfl⟩
    go_wp2_with fail
    refine (known_any _ (hF.drewN _)).mono ?_
    rintro e w1 ⟨rfl, hb1⟩
    have hb1 : Below w.heap.size w w1 := drewN_below (n := m1) hb1
    go_wp2_with fail
    go_ret
    exact ⟨rfl, hb1⟩
  have h1 : 0 ≤ most := by omega
  by_cases hv : 0 ≤ first t 0
  · go_wp2_with fail
    refine (cut_text t most _ hF hm.out h1 hv).mono ?_
    rintro e w' ⟨rfl, m1, rfl⟩
    go_wp2_with fail
    refine (known_any _ (hF.drewN _)).mono ?_
    rintro e w1 ⟨rfl, hb1⟩
    have hb1 : Below w.heap.size w w1 := drewN_below (n := m1) hb1
    go_wp2_with fail
    refine (refFirst_any t _ hm.out).mono ?_
    rintro e w2 ⟨rfl, hb2⟩
    have hb2 := below_step hb1 hb2
    clear hb1
    go_wp2_with fail
    go_ret
    exact ⟨rfl, hb2⟩
  have hV : Hid (first t 0 = -1) := by rcases first_cases t 0 with h | h; exact h; exact absurd (by simpa using h) hv
  have hf : (0 ≤ first t 0) = False := by simp [hv]
  clear hv h0
  -- the greatest place
  obtain ⟨N, hN, hNs⟩ : ∃ N : Nat, (N : Int) = min most (t.size : Int) ∧ N ≤ t.size := ⟨(min most (t.size : Int)).toNat, by omega, by omega⟩
  obtain ⟨n0, hb0, hn0, hj⟩ := Bnd.find hV.out hNs
  have hJ := hide hj
  have HB := hide hb0
  clear hj hb0
  have hcut : Hid (∀ w, Forms w → Calls Tryd.prog 34 #[.string t, .int .i64 most] w fun e w' => e = .returned (.tuple #[.string (t.extract 0 n0), .int .i64 0]) ∧ ∃ n, w' = w.drewN n) := by
    intro w hF
    by_cases hc : t.size ≤ most
    · have e : n0 = t.size := by
        by_cases e : n0 = t.size
        · exact e
        · exact absurd (hJ.out t.size (by omega) (by omega)).2.1 (by omega)
      rw [e, pre_self]
      exact cut_all t most w hF hm.out hc hV.out
    · obtain ⟨k, rfl⟩ := Int.eq_ofNat_of_zero_le h1
      exact cut_some t k n0 w hF hm.out (by omega) hV.out HB.out (by omega) (fun j h1 h2 => (hJ.out j h1 (by omega)).2.2)
  go_wp2_with fail
  refine (hcut.out _ hF).mono ?_
  rintro e w' ⟨rfl, m1, rfl⟩
  go_wp2_with fail
  refine (known_any _ (hF.drewN _)).mono ?_
  rintro e w1 ⟨rfl, hb1⟩
  have hb1 : Below w.heap.size w w1 := drewN_below (n := m1) hb1
  go_wp2_with fail
  refine (refFirst_any t _ hm.out).mono ?_
  rintro e w2 ⟨rfl, hb2⟩
  have hb2 := below_step hb1 hb2
  clear hb1
  by_cases hmin : most ≤ (t.size : Int)
  · have hNm : (N : Int) = most := by omega
    obtain rfl : most = (N : Int) := hNm.symm
    clear hNm hN hmin
    have q1 : decide ((N : Int) < 0) = false := by simp
    go_wp2_with fail
    go_loopw [7] (fun v wr => ∃ k : Nat, n0 ≤ k ∧ k ≤ N ∧ v = .int .i64 k ∧ Below w.heap.size w wr) (fun v _ => (intOf v).toNat)
    case atStart => exact ⟨N, hn0, Nat.le_refl _, rfl, hb2⟩
    case round =>
      obtain ⟨k, hk0, hk, rfl, hb⟩ := hrel
      have hps := pre_size (s := t) (n := k) (by omega)
      have hpm : Hid ((t.extract 0 k).size ≤ maxLen) := by unfold Hid maxLen; omega
      have hpf := hide (pre_first hV.out (n := k) (by omega) .zero (Nat.zero_le k))
      clear hps
      by_cases hc : k = n0
      · subst hc
        have hz : (0 ≤ first (t.extract 0 k) 0) = False := by rw [hpf.out.1 HB.out]; simp
        go_wp2_with fail
        refine (refFirst_any _ _ hpm.out).mono ?_
        rintro e w3 ⟨rfl, hb3⟩
        have hb3 := below_step hb hb3
        clear hb
        go_wp2_with fail
        go_ret
        exact ⟨ret_bool (by simp), hb3⟩
      · have hz : (0 ≤ first (t.extract 0 k) 0) = True := by
          have := hpf.out.2 (hJ.out k (by omega) hk).1
          simp [this]
        go_wp2_with fail
        refine (refFirst_any _ _ hpm.out).mono ?_
        rintro e w3 ⟨rfl, hb3⟩
        have hb3 := below_step hb hb3
        clear hb
        go_wp2_with fail
        go_roundw
        case rel => exact ⟨k - 1, by omega, by omega, by rw [show ((k - 1 : Nat) : Int) = (k : Int) - 1 by omega], hb3⟩
        case measure => simp [intOf]; omega
  · obtain rfl : N = t.size := by omega
    have q1 : decide (most < 0) = false := by simp; omega
    clear hN hNs
    go_wp2_with fail
    go_loopw [7] (fun v wr => ∃ k : Nat, n0 ≤ k ∧ k ≤ t.size ∧ v = .int .i64 k ∧ Below w.heap.size w wr) (fun v _ => (intOf v).toNat)
    case atStart => exact ⟨t.size, hn0, Nat.le_refl _, rfl, hb2⟩
    case round =>
      obtain ⟨k, hk0, hk, rfl, hb⟩ := hrel
      have hps := pre_size (s := t) (n := k) (by omega)
      have hpm : Hid ((t.extract 0 k).size ≤ maxLen) := by unfold Hid maxLen; omega
      have hpf := hide (pre_first hV.out (n := k) (by omega) .zero (Nat.zero_le k))
      clear hps
      by_cases hc : k = n0
      · subst hc
        have hz : (0 ≤ first (t.extract 0 k) 0) = False := by rw [hpf.out.1 HB.out]; simp
        go_wp2_with fail
        refine (refFirst_any _ _ hpm.out).mono ?_
        rintro e w3 ⟨rfl, hb3⟩
        have hb3 := below_step hb hb3
        clear hb
        go_wp2_with fail
        go_ret
        exact ⟨ret_bool (by simp), hb3⟩
      · have hz : (0 ≤ first (t.extract 0 k) 0) = True := by
          have := hpf.out.2 (hJ.out k (by omega) hk).1
          simp [this]
        go_wp2_with fail
        refine (refFirst_any _ _ hpm.out).mono ?_
        rintro e w3 ⟨rfl, hb3⟩
        have hb3 := below_step hb hb3
        clear hb
        go_wp2_with fail
        go_roundw
        case rel => exact ⟨k - 1, by omega, by omega, by rw [show ((k - 1 : Nat) : Int) = (k : Int) - 1 by omega], hb3⟩
        case measure => simp [intOf]; omega
end Go.Proofs.YtmmigpncoojobacDoor
