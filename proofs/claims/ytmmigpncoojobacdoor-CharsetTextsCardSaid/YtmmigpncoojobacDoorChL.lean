/- What charset.Count, the reference's Points and the statements' same return. Conditions: the table of the forms holds what the program's text lays; texts of at most 2^40 bytes. -/
import Derived.Test.YtmmigpncoojobacDoorChK
namespace Go.Proofs.YtmmigpncoojobacDoor
open Go Go.RowKit Go.PlainAid

theorem dec_fol {g : Nat → Int} {n : Nat} (h : (dec g n).2 ≠ 0) : fol (g 0) = false ∧ ∀ i, 0 < i → i < (dec g n).2 → fol (g i) = true := by
  by_cases hn : n = 0
  · subst hn; rw [dec_nil] at h; exact absurd rfl h
  have nf : ∀ b : Int, ¬ (128 ≤ b ∧ b < 192) → fol b = false := fun b hb => by
    cases e : fol b
    · rfl
    · exact absurd (fol_iff.1 e) hb
  by_cases c1 : g 0 < 128
  · rw [dec_one hn c1]
    exact ⟨nf _ (by omega), fun i h1 h2 => by simp at h2; omega⟩
  by_cases c0 : 128 ≤ g 0 ∧ g 0 < 192 ∨ 248 ≤ g 0
  · rw [dec_none c0] at h; exact absurd rfl h
  refine ⟨nf _ (by omega), ?_⟩
  by_cases c2 : g 0 < 224
  · rw [dec_two hn (by omega) c2] at h ⊢
    split at h
    · rename_i hc
      rw [if_pos hc]
      intro i h1 h2
      obtain rfl : i = 1 := by simp at h2; omega
      exact hc.2.1
    · exact absurd rfl h
  by_cases c3 : g 0 < 240
  · rw [dec_three hn (by omega) c3] at h ⊢
    split at h
    · rename_i hc
      rw [if_pos hc]
      intro i h1 h2
      have : i = 1 ∨ i = 2 := by simp at h2; omega
      rcases this with rfl | rfl
      · exact hc.2.1
      · exact hc.2.2.1
    · exact absurd rfl h
  · rw [dec_four hn (by omega) (by omega)] at h ⊢
    split at h
    · rename_i hc
      rw [if_pos hc]
      intro i h1 h2
      have : i = 1 ∨ i = 2 ∨ i = 3 := by simp at h2; omega
      rcases this with rfl | rfl | rfl
      · exact hc.2.1
      · exact hc.2.2.1
      · exact hc.2.2.2.1
    · exact absurd rfl h
theorem siz_fol {s : ByteArray} {k : Nat} (h : siz s k ≠ 0) : fol (bt s k) = false ∧ ∀ i, k < i → i < k + siz s k → fol (bt s i) = true := by
  have := dec_fol (g := from_ s k) (n := s.size - k) h
  refine ⟨this.1, fun i h1 h2 => ?_⟩
  have := this.2 (i - k) (by omega) (by show i - k < siz s k; omega)
  unfold from_ at this
  rwa [show k + (i - k) = i by omega] at this

/-- how many bytes from k on are no following ones -/
def cnt (s : ByteArray) (k : Nat) : Nat := if _h : k < s.size then (if fol (bt s k) = true then 0 else 1) + cnt s (k + 1) else 0
termination_by s.size - k
theorem cnt_end {s : ByteArray} {k : Nat} (h : s.size ≤ k) : cnt s k = 0 := by rw [cnt, dif_neg (by omega)]
theorem cnt_fol {s : ByteArray} {k : Nat} (h : k < s.size) (hf : fol (bt s k) = true) : cnt s k = cnt s (k + 1) := by rw [cnt, dif_pos h, if_pos hf, Nat.zero_add]
theorem cnt_lead {s : ByteArray} {k : Nat} (h : k < s.size) (hf : fol (bt s k) = false) : cnt s k = 1 + cnt s (k + 1) := by rw [cnt, dif_pos h, if_neg (by rw [hf]; simp)]
theorem cnt_run (s : ByteArray) : ∀ (m k : Nat), k + m ≤ s.size → (∀ i, k ≤ i → i < k + m → fol (bt s i) = true) → cnt s k = cnt s (k + m)
  | 0, k, _, _ => rfl
  | m + 1, k, h, hf => by
    rw [cnt_fol (by omega) (hf k (by omega) (by omega)), cnt_run s m (k + 1) (by omega) (fun i h1 h2 => hf i (by omega) (by omega)), show k + 1 + m = k + (m + 1) by omega]
theorem cnt_points {s : ByteArray} {k : Nat} (h : first s k = -1) : cnt s k = (points s k).length := by
  by_cases hk : k < s.size
  · by_cases h0 : siz s k = 0
    · rw [first_bad hk h0] at h; omega
    · rw [first_more hk h0] at h
      have hz := siz_le s k
      have hf := siz_fol h0
      rw [points_more hk h0, List.length_cons, cnt_lead hk hf.1, cnt_run s (siz s k - 1) (k + 1) (by omega) (fun i h1 h2 => hf.2 i (by omega) (by omega)), show k + 1 + (siz s k - 1) = k + siz s k by omega, cnt_points h]
      omega
  · rw [cnt_end (by omega), points_end (by omega)]; rfl
termination_by s.size - k
theorem cnt_le (s : ByteArray) (k : Nat) : cnt s k ≤ s.size - k := by
  by_cases hk : k < s.size
  · have := cnt_le s (k + 1)
    cases hf : fol (bt s k)
    · rw [cnt_lead hk hf]; omega
    · rw [cnt_fol hk hf]; omega
  · rw [cnt_end (by omega)]; omega
termination_by s.size - k

set_option maxHeartbeats 2000000 in
theorem count_ok (s : ByteArray) (w : World) (hF : Forms w) (hs : s.size ≤ maxLen) (hv : first s 0 = -1) :
    Calls Tryd.prog 25 #[.string s] w fun e w' => e = .returned (.tuple #[.int .i64 (points s 0).length, .int .i64 0]) ∧ ∃ n, w' = w.drewN n := by
  rw [← cnt_points hv]
  have hm := hide hs
  unfold maxLen at hs
  have hB := get_bt s
  have hd : decide (first s 0 < 0) = true := by rw [hv]; rfl
  clear hv
  go_enter Tryd.func25, Tryd.ntmps25
  go_wp2_with fail
  refine (valid_any s _ hF hm.out).mono ?_
  rintro e w' ⟨rfl, m, rfl⟩
  go_wp2_with fail
  clear hd
  have hcl := cnt_le s 0
  go_loop [4, 11] (fun c i => ∃ k n : Nat, k ≤ s.size ∧ i = .int .i64 k ∧ c = .int .i64 n ∧ n ≤ k ∧ Hid (cnt s 0 = n + cnt s k)) (fun _ i => s.size - (intOf i).toNat)
  case atStart => exact ⟨0, 0, Nat.zero_le _, rfl, rfl, Nat.le_refl _, by simp [Hid]⟩
  case round =>
    obtain ⟨k, n, hk, rfl, rfl, hnk, hc⟩ := hrel
    by_cases hlt : k < s.size
    · have b0 := bt_nonneg s k
      have b1 := bt_le s k
      cases hf : fol (bt s k)
      · have hr := hide (cnt_lead hlt hf)
        go_wp2_with (go_at_call 38; refine (isFollowing_any _ _ (by omega) (by omega)).mono ?_; rintro e w' ⟨rfl, rfl⟩)
        go_round
        case rel => exact ⟨k + 1, n + 1, by omega, by go_num, by go_num, by omega, by unfold Hid; rw [hc.out, hr.out]; omega⟩
        case measure => simp [intOf]; omega
      · have hr := hide (cnt_fol hlt hf)
        go_wp2_with (go_at_call 38; refine (isFollowing_any _ _ (by omega) (by omega)).mono ?_; rintro e w' ⟨rfl, rfl⟩)
        go_round
        case rel => exact ⟨k + 1, n, by omega, by go_num, rfl, by omega, by unfold Hid; rw [hc.out, hr.out]⟩
        case measure => simp [intOf]; omega
    · have hr := hide (cnt_end (s := s) (k := k) (by omega))
      go_wp2_with fail
      go_ret2
      exact ⟨by rw [hc.out, hr.out]; rfl, _, rfl⟩

set_option maxHeartbeats 1000000 in
theorem count_no (s : ByteArray) (w : World) (hF : Forms w) (hs : s.size ≤ maxLen) (hv : 0 ≤ first s 0) :
    Calls Tryd.prog 25 #[.string s] w fun e w' => e = .returned (.tuple #[.int .i64 0, .int .i64 16]) ∧ ∃ n, w' = w.drewN n := by
  have hd : decide (first s 0 < 0) = false := by simp; exact hv
  clear hv
  go_enter Tryd.func25, Tryd.ntmps25
  go_wp2_with fail
  refine (valid_any s _ hF hs).mono ?_
  rintro e w' ⟨rfl, m, rfl⟩
  go_wp2_with fail
  go_ret2
  exact ⟨rfl, _, rfl⟩

theorem IntsAt.at_ {w : World} {B : Nat} {v : Value} {l : List Int} (h : IntsAt w B v l) {k : Nat} (hk : k < l.length) : ∃ g off c, v = .slice (some ⟨g, off, none⟩) l.length c ∧ g < B ∧ w.cell? ⟨g, off + k, none⟩ = some (.int .i64 (l.getD k 0)) := by
  obtain ⟨A, c, rfl, hA⟩ := h
  obtain ⟨g, off, rfl, hg, hc⟩ := hA (by omega)
  exact ⟨g, off, c, rfl, hg, hc k hk⟩
theorem IntsAt.below {w w' : World} {B : Nat} {v : Value} {l : List Int} (h : IntsAt w B v l) (hb : Below B w w') : IntsAt w' B v l := by
  obtain ⟨A, c, rfl, hA⟩ := h
  refine ⟨A, c, rfl, fun h => ?_⟩
  obtain ⟨g, off, rfl, hg, hc⟩ := hA h
  exact ⟨g, off, rfl, hg, fun i hi => (hb.cell (p := ⟨g, off + i, none⟩) hg).trans (hc i hi)⟩
theorem IntsAt.more {w : World} {B B' : Nat} {v : Value} {l : List Int} (h : IntsAt w B v l) (hB : B ≤ B') : IntsAt w B' v l := by
  obtain ⟨A, c, rfl, hA⟩ := h
  refine ⟨A, c, rfl, fun h => ?_⟩
  obtain ⟨g, off, rfl, hg, hc⟩ := hA h
  exact ⟨g, off, rfl, by omega, hc⟩
theorem IntsAt.own {w : World} {B m : Nat} {v : Value} {l : List Int} (h : w.ownsRow B 3 1 v m (l.map (Value.int .i64))) : IntsAt w w.heap.size v l := by
  have hl : l.length = m := by have := h.1; simpa using this
  subst hl
  rcases h.2 with ⟨rfl, h0⟩ | ⟨g, cap, cur, rfl, _⟩
  · refine ⟨none, 0, by rw [h0], fun h => by omega⟩
  · refine ⟨_, cap, rfl, fun _ => ⟨g, 0, rfl, (h.lt g rfl).2, fun i hi => ?_⟩⟩
    rw [Nat.zero_add, h.cellAt i (by omega)]
    simp [List.getD, hi]

set_option maxHeartbeats 2000000 in
theorem same_any (a b : Value) (l : List Int) (w : World) (ha : IntsAt w w.heap.size a l) (hb : IntsAt w w.heap.size b l) (hl : l.length ≤ 1099511627776) :
    Calls Tryd.prog 27 #[a, b] w fun e w' => e = .returned (.bool true) ∧ ∃ n, w' = w.drewN n := by
  have hA := hide ha
  have hB := hide hb
  obtain ⟨A, ca, rfl, _⟩ := ha
  obtain ⟨B, cb, rfl, _⟩ := hb
  go_enter Tryd.func27, Tryd.ntmps27
  go_wp2_with fail
  go_loopw [5] (fun i wr => ∃ k n : Nat, k ≤ l.length ∧ i = .int .i64 k ∧ wr = w.drewN n) (fun i _ => l.length - (intOf i).toNat)
  case atStart => exact ⟨0, 0, Nat.zero_le _, rfl, rfl⟩
  case round =>
    obtain ⟨k, n, hk, rfl, rfl⟩ := hrel
    by_cases hlt : k < l.length
    · obtain ⟨g, off, c, hv, _, hc⟩ := hA.out.at_ hlt
      obtain ⟨g', off', c', hv', _, hc'⟩ := hB.out.at_ hlt
      injection hv with e1 e2 e3
      injection hv' with e1' e2' e3'
      subst e1 e3 e1' e3'
      clear e2 e2'
      generalize l.getD k 0 = x at hc hc'
      go_wp2_with fail
      go_quiet (fail)
      go_wp2_with fail
      go_roundw
      case rel => exact ⟨k + 1, _, by omega, by go_num, rfl⟩
      case measure => simp [intOf]; omega
    · go_wp2_with fail
      go_ret
      exact ⟨rfl, _, rfl⟩
end Go.Proofs.YtmmigpncoojobacDoor
