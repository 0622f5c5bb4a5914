/- Encoding and decoding of UTF-8 are inverse to one another: plain facts. Condition: code points, valid texts. -/
import Derived.Test.YtmmigpncoojobacDoorChJ
namespace Go.Proofs.YtmmigpncoojobacDoor
open Go Go.RowKit Go.PlainAid

theorem encL_bytes {p : Int} (h : isPt p = true) : ∀ n ∈ encL p, 0 ≤ n ∧ n ≤ 255 := by
  have hp := isPt_iff.1 h
  unfold encL
  repeat' split
  all_goals
    intro n hn
    simp only [List.mem_cons, List.not_mem_nil, or_false] at hn
    omega
theorem encL_pos (p : Int) : 0 < (encL p).length := by
  unfold encL
  repeat' split
  all_goals simp

theorem dec_enc {p : Int} (h : isPt p = true) {g : Nat → Int} {n : Nat} (hn : (encL p).length ≤ n) (hg : ∀ i, i < (encL p).length → g i = (encL p).getD i 0) : dec g n = (p, (encL p).length) := by
  have hp := isPt_iff.1 h
  unfold encL at *
  by_cases c1 : p < 128
  · simp only [if_pos c1, List.length_cons, List.length_nil] at *
    have g0 := hg 0 (by omega)
    simp at g0
    rw [dec_one (by omega) (by omega), g0]
  by_cases c2 : p < 2048
  · simp only [if_neg c1, if_pos c2, List.length_cons, List.length_nil] at *
    have g0 := hg 0 (by omega)
    have g1 := hg 1 (by omega)
    simp at g0 g1
    rw [dec_two (by omega) (by omega) (by omega), if_pos ⟨by omega, fol_iff.2 ⟨by omega, by omega⟩, by omega⟩, Prod.mk.injEq]
    exact ⟨by omega, rfl⟩
  by_cases c3 : p < 65536
  · simp only [if_neg c1, if_neg c2, if_pos c3, List.length_cons, List.length_nil] at *
    have g0 := hg 0 (by omega)
    have g1 := hg 1 (by omega)
    have g2 := hg 2 (by omega)
    simp at g0 g1 g2
    have e : ((g 0 - 224) * 64 + (g 1 - 128)) * 64 + (g 2 - 128) = p := by omega
    rw [dec_three (by omega) (by omega) (by omega), e, if_pos ⟨by omega, fol_iff.2 ⟨by omega, by omega⟩, fol_iff.2 ⟨by omega, by omega⟩, by omega, h⟩]
  · simp only [if_neg c1, if_neg c2, if_neg c3, List.length_cons, List.length_nil] at *
    have g0 := hg 0 (by omega)
    have g1 := hg 1 (by omega)
    have g2 := hg 2 (by omega)
    have g3 := hg 3 (by omega)
    simp at g0 g1 g2 g3
    have e : (((g 0 - 240) * 64 + (g 1 - 128)) * 64 + (g 2 - 128)) * 64 + (g 3 - 128) = p := by omega
    rw [dec_four (by omega) (by omega) (by omega), e, if_pos ⟨by omega, fol_iff.2 ⟨by omega, by omega⟩, fol_iff.2 ⟨by omega, by omega⟩, fol_iff.2 ⟨by omega, by omega⟩, by omega, h⟩]

theorem enc_dec {g : Nat → Int} {n : Nat} (h : (dec g n).2 ≠ 0) : encL (dec g n).1 = (List.range (dec g n).2).map g := by
  by_cases hn : n = 0
  · subst hn; rw [dec_nil] at h; exact absurd rfl h
  by_cases c1 : g 0 < 128
  · rw [dec_one hn c1]
    unfold encL
    rw [if_pos c1]
    rfl
  by_cases c0 : 128 ≤ g 0 ∧ g 0 < 192 ∨ 248 ≤ g 0
  · rw [dec_none c0] at h; exact absurd rfl h
  by_cases c2 : g 0 < 224
  · rw [dec_two hn (by omega) c2] at h ⊢
    split at h
    · rename_i hc
      have f1 := fol_iff.1 hc.2.1
      rw [if_pos hc]
      unfold encL
      simp only
      rw [if_neg (by omega), if_pos (by omega)]
      show _ = [g 0, g 1]
      simp only [List.cons.injEq, and_true]
      omega
    · exact absurd rfl h
  by_cases c3 : g 0 < 240
  · rw [dec_three hn (by omega) c3] at h ⊢
    split at h
    · rename_i hc
      have f1 := fol_iff.1 hc.2.1
      have f2 := fol_iff.1 hc.2.2.1
      rw [if_pos hc]
      have hl := hc.2.2.2.1
      clear hc h
      unfold encL
      simp only
      rw [if_neg (by omega), if_neg (by omega), if_pos (by omega)]
      show _ = [g 0, g 1, g 2]
      simp only [List.cons.injEq, and_true]
      omega
    · exact absurd rfl h
  · rw [dec_four hn (by omega) (by omega)] at h ⊢
    split at h
    · rename_i hc
      have f1 := fol_iff.1 hc.2.1
      have f2 := fol_iff.1 hc.2.2.1
      have f3 := fol_iff.1 hc.2.2.2.1
      rw [if_pos hc]
      have hl := hc.2.2.2.2.1
      clear hc h
      unfold encL
      simp only
      rw [if_neg (by omega), if_neg (by omega), if_neg (by omega)]
      show _ = [g 0, g 1, g 2, g 3]
      simp only [List.cons.injEq, and_true]
      omega
    · exact absurd rfl h

theorem bt_nums {l : List Int} (h : ∀ n ∈ l, 0 ≤ n ∧ n ≤ 255) (i : Nat) : bt (strOfNums l) i = l.getD i 0 := by
  rw [bt_list, nums_list, List.getElem?_map]
  by_cases hi : i < l.length
  · have := h _ (List.getElem_mem hi)
    rw [List.getElem?_eq_getElem hi]
    simp only [Option.map_some, Option.getD_some, UInt8.toNat_ofNat', List.getD, List.getElem?_eq_getElem hi]
    omega
  · rw [List.getElem?_eq_none (by omega)]
    simp [List.getD, List.getElem?_eq_none (show l.length ≤ i by omega)]
theorem nums_size (l : List Int) : (strOfNums l).size = l.length := by
  rw [← size_list, nums_list, List.length_map]
theorem encs_bytes {l : List Int} (h : ∀ p ∈ l, isPt p = true) : ∀ n ∈ encs l, 0 ≤ n ∧ n ≤ 255 := by
  intro n hn
  obtain ⟨p, hp, hnp⟩ := List.mem_flatMap.1 hn
  exact encL_bytes (h p hp) n hnp
theorem encs_append (a b : List Int) : encs (a ++ b) = encs a ++ encs b := List.flatMap_append ..
theorem encs_cons (p : Int) (b : List Int) : encs (p :: b) = encL p ++ encs b := List.flatMap_cons ..

theorem points_encs_from : ∀ (b a : List Int), (∀ p ∈ a ++ b, isPt p = true) → points (strOfNums (encs (a ++ b))) (encs a).length = b ∧ first (strOfNums (encs (a ++ b))) (encs a).length = -1
  | [], a, _ => by
    rw [List.append_nil]
    exact ⟨points_end (by rw [nums_size]; exact Nat.le_refl _), first_end (by rw [nums_size]; exact Nat.le_refl _)⟩
  | p :: b, a, h => by
    have hb := encs_bytes h
    have hp : isPt p = true := h p (by simp)
    have hsz : (strOfNums (encs (a ++ p :: b))).size = (encs a).length + ((encL p).length + (encs b).length) := by
      rw [nums_size, encs_append, encs_cons]; simp
    have hpos := encL_pos p
    have hd := dec_enc hp (g := from_ (strOfNums (encs (a ++ p :: b))) (encs a).length) (n := (strOfNums (encs (a ++ p :: b))).size - (encs a).length) (by omega) (fun i hi => by
      unfold from_
      rw [bt_nums hb, encs_append, encs_cons]
      simp only [List.getD]
      rw [List.getElem?_append_right (by omega), Nat.add_sub_cancel_left, List.getElem?_append_left hi])
    have hz : siz (strOfNums (encs (a ++ p :: b))) (encs a).length = (encL p).length := congrArg Prod.snd hd
    have hc : cp (strOfNums (encs (a ++ p :: b))) (encs a).length = p := congrArg Prod.fst hd
    have hlt : (encs a).length < (strOfNums (encs (a ++ p :: b))).size := by omega
    have ih := points_encs_from b (a ++ [p]) (by simpa using h)
    have e1 : (encs (a ++ [p])).length = (encs a).length + (encL p).length := by
      rw [encs_append, encs_cons]; simp [encs]
    rw [List.append_assoc, List.singleton_append, e1] at ih
    rw [points_more hlt (by omega), first_more hlt (by omega), hz, hc, ih.1, ih.2]
    exact ⟨rfl, rfl⟩

theorem points_encs {l : List Int} (h : ∀ p ∈ l, isPt p = true) : points (strOfNums (encs l)) 0 = l ∧ first (strOfNums (encs l)) 0 = -1 := by
  have := points_encs_from l [] h
  simpa [encs] using this

theorem first_cases (s : ByteArray) (k : Nat) : first s k = -1 ∨ (k : Int) ≤ first s k := by
  by_cases hk : k < s.size
  · by_cases h0 : siz s k = 0
    · right; rw [first_bad hk h0]; exact Int.le_refl _
    · rw [first_more hk h0]
      have := siz_le s k
      rcases first_cases s (k + siz s k) with h | h
      · exact .inl h
      · right; omega
  · left; exact first_end (by omega)
termination_by s.size - k

theorem range_add (a b : Nat) (f : Nat → Int) : (List.range (a + b)).map f = (List.range a).map f ++ (List.range b).map fun i => f (a + i) := by
  rw [List.range_add]
  simp [Function.comp_def]

theorem encs_points {s : ByteArray} {k : Nat} (h : first s k = -1) : encs (points s k) = (List.range (s.size - k)).map fun i => bt s (k + i) := by
  by_cases hk : k < s.size
  · by_cases h0 : siz s k = 0
    · rw [first_bad hk h0] at h; omega
    · rw [first_more hk h0] at h
      have hz := siz_le s k
      rw [points_more hk h0, encs_cons, encs_points h]
      have e : encL (cp s k) = (List.range (siz s k)).map (from_ s k) := enc_dec (g := from_ s k) (n := s.size - k) h0
      rw [e, show s.size - k = siz s k + (s.size - (k + siz s k)) by omega, range_add]
      congr 1
      apply List.map_congr_left
      intro i _
      show bt s _ = bt s _
      congr 1
      omega
  · rw [points_end (by omega), show s.size - k = 0 by omega]
    rfl
termination_by s.size - k

theorem nums_self (s : ByteArray) : strOfNums ((List.range s.size).map fun i => bt s i) = s := by
  apply ByteArray.ext
  apply Array.toList_inj.1
  rw [nums_list, List.map_map]
  have := take_bytes s s.size (Nat.le_refl _)
  rw [List.take_of_length_le (by rw [size_list]; exact Nat.le_refl _)] at this
  rw [this]
  rfl
theorem text_points {s : ByteArray} (h : first s 0 = -1) : strOfNums (encs (points s 0)) = s := by
  rw [encs_points h]
  simp only [Nat.zero_add, Nat.sub_zero]
  exact nums_self s
theorem points_pts (s : ByteArray) (k : Nat) : ∀ p ∈ points s k, isPt p = true := by
  by_cases h : k < s.size ∧ siz s k ≠ 0
  · rw [points_more h.1 h.2]
    have hz := siz_le s k
    intro p hp
    rcases List.mem_cons.1 hp with rfl | hp
    · exact dec_pt (from_ s k) (s.size - k) (bt_nonneg s _) h.2
    · exact points_pts s _ p hp
  · rw [points, dif_neg h]
    intro p hp; cases hp
termination_by s.size - k
end Go.Proofs.YtmmigpncoojobacDoor
