/- Plain facts on the decoding of UTF-8, byte by byte, as integers. No condition. -/
import Derived.PlainAid
namespace Go.Proofs.YtmmigpncoojobacDoor
open Go.PlainAid

/-- a code point -/
def isPt (p : Int) : Bool := decide (0 ≤ p) && decide (p ≤ 1114111) && (decide (p < 55296) || decide (57343 < p))
/-- a following byte -/
def fol (b : Int) : Bool := decide (128 ≤ b) && decide (b < 192)

/-- the code point at the head of the n bytes g 0, g 1, .. and its number of bytes (0: none) -/
def dec (g : Nat → Int) (n : Nat) : Int × Nat :=
  if n = 0 then (0, 0)
  else if g 0 < 128 then (g 0, 1)
  else if g 0 < 192 then (0, 0)
  else if g 0 < 224 then
    if 2 ≤ n ∧ fol (g 1) = true ∧ 128 ≤ (g 0 - 192) * 64 + (g 1 - 128) then ((g 0 - 192) * 64 + (g 1 - 128), 2) else (0, 0)
  else if g 0 < 240 then
    if 3 ≤ n ∧ fol (g 1) = true ∧ fol (g 2) = true ∧ 2048 ≤ ((g 0 - 224) * 64 + (g 1 - 128)) * 64 + (g 2 - 128) ∧ isPt (((g 0 - 224) * 64 + (g 1 - 128)) * 64 + (g 2 - 128)) = true
    then (((g 0 - 224) * 64 + (g 1 - 128)) * 64 + (g 2 - 128), 3) else (0, 0)
  else if g 0 < 248 then
    if 4 ≤ n ∧ fol (g 1) = true ∧ fol (g 2) = true ∧ fol (g 3) = true ∧ 65536 ≤ (((g 0 - 240) * 64 + (g 1 - 128)) * 64 + (g 2 - 128)) * 64 + (g 3 - 128) ∧ isPt ((((g 0 - 240) * 64 + (g 1 - 128)) * 64 + (g 2 - 128)) * 64 + (g 3 - 128)) = true
    then ((((g 0 - 240) * 64 + (g 1 - 128)) * 64 + (g 2 - 128)) * 64 + (g 3 - 128), 4) else (0, 0)
  else (0, 0)

/-- the bytes of s from k on -/
def from_ (s : ByteArray) (k : Nat) (i : Nat) : Int := bt s (k + i)
def cp (s : ByteArray) (k : Nat) : Int := (dec (from_ s k) (s.size - k)).1
def siz (s : ByteArray) (k : Nat) : Nat := (dec (from_ s k) (s.size - k)).2

theorem dec_nil (g : Nat → Int) : dec g 0 = (0, 0) := by unfold dec; rw [if_pos rfl]
theorem dec_one {g : Nat → Int} {n : Nat} (hn : n ≠ 0) (h : g 0 < 128) : dec g n = (g 0, 1) := by unfold dec; rw [if_neg hn, if_pos h]
theorem dec_none {g : Nat → Int} {n : Nat} (h : 128 ≤ g 0 ∧ g 0 < 192 ∨ 248 ≤ g 0) : dec g n = (0, 0) := by
  unfold dec
  split
  · rfl
  rw [if_neg (by omega)]
  rcases h with h | h
  · rw [if_pos (by omega)]
  · rw [if_neg (by omega), if_neg (by omega), if_neg (by omega), if_neg (by omega)]
theorem dec_two {g : Nat → Int} {n : Nat} (hn : n ≠ 0) (h1 : 192 ≤ g 0) (h2 : g 0 < 224) : dec g n =
    if 2 ≤ n ∧ fol (g 1) = true ∧ 128 ≤ (g 0 - 192) * 64 + (g 1 - 128) then ((g 0 - 192) * 64 + (g 1 - 128), 2) else (0, 0) := by
  unfold dec; rw [if_neg hn, if_neg (by omega), if_neg (by omega), if_pos h2]
theorem dec_three {g : Nat → Int} {n : Nat} (hn : n ≠ 0) (h1 : 224 ≤ g 0) (h2 : g 0 < 240) : dec g n =
    if 3 ≤ n ∧ fol (g 1) = true ∧ fol (g 2) = true ∧ 2048 ≤ ((g 0 - 224) * 64 + (g 1 - 128)) * 64 + (g 2 - 128) ∧ isPt (((g 0 - 224) * 64 + (g 1 - 128)) * 64 + (g 2 - 128)) = true
    then (((g 0 - 224) * 64 + (g 1 - 128)) * 64 + (g 2 - 128), 3) else (0, 0) := by
  unfold dec; rw [if_neg hn, if_neg (by omega), if_neg (by omega), if_neg (by omega), if_pos h2]
theorem dec_four {g : Nat → Int} {n : Nat} (hn : n ≠ 0) (h1 : 240 ≤ g 0) (h2 : g 0 < 248) : dec g n =
    if 4 ≤ n ∧ fol (g 1) = true ∧ fol (g 2) = true ∧ fol (g 3) = true ∧ 65536 ≤ (((g 0 - 240) * 64 + (g 1 - 128)) * 64 + (g 2 - 128)) * 64 + (g 3 - 128) ∧ isPt ((((g 0 - 240) * 64 + (g 1 - 128)) * 64 + (g 2 - 128)) * 64 + (g 3 - 128)) = true
    then ((((g 0 - 240) * 64 + (g 1 - 128)) * 64 + (g 2 - 128)) * 64 + (g 3 - 128), 4) else (0, 0) := by
  unfold dec; rw [if_neg hn, if_neg (by omega), if_neg (by omega), if_neg (by omega), if_neg (by omega), if_pos h2]

theorem dec_le (g : Nat → Int) (n : Nat) : (dec g n).2 ≤ n ∧ (dec g n).2 ≤ 4 := by
  unfold dec
  repeat' split
  all_goals (simp only []; omega)

theorem dec_zero (g : Nat → Int) (n : Nat) (h : (dec g n).2 = 0) : (dec g n).1 = 0 := by
  unfold dec at *
  repeat' split
  all_goals simp_all

theorem dec_pt (g : Nat → Int) (n : Nat) (h0 : 0 ≤ g 0) (h : (dec g n).2 ≠ 0) : isPt (dec g n).1 = true := by
  unfold dec at *
  repeat' split
  all_goals simp_all [isPt, fol]
  all_goals omega

theorem cp_siz (s : ByteArray) (k : Nat) : (cp s k, siz s k) = dec (from_ s k) (s.size - k) := rfl
theorem cp_one {s : ByteArray} {k : Nat} (hk : k < s.size) (h : bt s k < 128) : cp s k = bt s k ∧ siz s k = 1 := by
  have := dec_one (g := from_ s k) (n := s.size - k) (by omega) h
  exact ⟨congrArg Prod.fst this, congrArg Prod.snd this⟩
theorem cp_none {s : ByteArray} {k : Nat} (h : 128 ≤ bt s k ∧ bt s k < 192 ∨ 248 ≤ bt s k) : cp s k = 0 ∧ siz s k = 0 := by
  have := dec_none (g := from_ s k) (n := s.size - k) h
  exact ⟨congrArg Prod.fst this, congrArg Prod.snd this⟩
theorem cp_two {s : ByteArray} {k : Nat} (hk : k < s.size) (h1 : 192 ≤ bt s k) (h2 : bt s k < 224) : (cp s k, siz s k) =
    if 2 ≤ s.size - k ∧ fol (bt s (k + 1)) = true ∧ 128 ≤ (bt s k - 192) * 64 + (bt s (k + 1) - 128) then ((bt s k - 192) * 64 + (bt s (k + 1) - 128), 2) else (0, 0) :=
  dec_two (g := from_ s k) (by omega) h1 h2
theorem cp_three {s : ByteArray} {k : Nat} (hk : k < s.size) (h1 : 224 ≤ bt s k) (h2 : bt s k < 240) : (cp s k, siz s k) =
    if 3 ≤ s.size - k ∧ fol (bt s (k + 1)) = true ∧ fol (bt s (k + 2)) = true ∧ 2048 ≤ ((bt s k - 224) * 64 + (bt s (k + 1) - 128)) * 64 + (bt s (k + 2) - 128) ∧ isPt (((bt s k - 224) * 64 + (bt s (k + 1) - 128)) * 64 + (bt s (k + 2) - 128)) = true
    then (((bt s k - 224) * 64 + (bt s (k + 1) - 128)) * 64 + (bt s (k + 2) - 128), 3) else (0, 0) :=
  dec_three (g := from_ s k) (by omega) h1 h2
theorem cp_four {s : ByteArray} {k : Nat} (hk : k < s.size) (h1 : 240 ≤ bt s k) (h2 : bt s k < 248) : (cp s k, siz s k) =
    if 4 ≤ s.size - k ∧ fol (bt s (k + 1)) = true ∧ fol (bt s (k + 2)) = true ∧ fol (bt s (k + 3)) = true ∧ 65536 ≤ (((bt s k - 240) * 64 + (bt s (k + 1) - 128)) * 64 + (bt s (k + 2) - 128)) * 64 + (bt s (k + 3) - 128) ∧ isPt ((((bt s k - 240) * 64 + (bt s (k + 1) - 128)) * 64 + (bt s (k + 2) - 128)) * 64 + (bt s (k + 3) - 128)) = true
    then ((((bt s k - 240) * 64 + (bt s (k + 1) - 128)) * 64 + (bt s (k + 2) - 128)) * 64 + (bt s (k + 3) - 128), 4) else (0, 0) :=
  dec_four (g := from_ s k) (by omega) h1 h2

theorem siz_le (s : ByteArray) (k : Nat) : siz s k ≤ s.size - k ∧ siz s k ≤ 4 := dec_le _ _

/-- the offset of the first error from k on, or -1 -/
def first (s : ByteArray) (k : Nat) : Int :=
  if _h : k < s.size ∧ siz s k ≠ 0 then first s (k + siz s k) else if k < s.size then k else -1
termination_by s.size - k

/-- the code points from k on, up to the first error -/
def points (s : ByteArray) (k : Nat) : List Int :=
  if _h : k < s.size ∧ siz s k ≠ 0 then cp s k :: points s (k + siz s k) else []
termination_by s.size - k

theorem first_more {s : ByteArray} {k : Nat} (h : k < s.size) (hz : siz s k ≠ 0) : first s k = first s (k + siz s k) := by
  rw [first, dif_pos ⟨h, hz⟩]
theorem first_bad {s : ByteArray} {k : Nat} (h : k < s.size) (hz : siz s k = 0) : first s k = k := by
  rw [first, dif_neg (by simp [hz]), if_pos h]
theorem first_end {s : ByteArray} {k : Nat} (h : s.size ≤ k) : first s k = -1 := by
  rw [first, dif_neg (by omega), if_neg (by omega)]
theorem points_more {s : ByteArray} {k : Nat} (h : k < s.size) (hz : siz s k ≠ 0) : points s k = cp s k :: points s (k + siz s k) := by
  rw [points, dif_pos ⟨h, hz⟩]
theorem points_end {s : ByteArray} {k : Nat} (h : s.size ≤ k) : points s k = [] := by
  rw [points, dif_neg (by omega)]
theorem points_bad {s : ByteArray} {k : Nat} (hz : siz s k = 0) : points s k = [] := by
  rw [points, dif_neg (by simp [hz])]

theorem points_len (s : ByteArray) (k : Nat) : (points s k).length ≤ s.size - k := by
  rw [points]
  split
  · rename_i h
    have := points_len s (k + siz s k)
    have := siz_le s k
    simp only [List.length_cons]
    omega
  · simp
termination_by s.size - k

/-- a text of ASCII bytes is valid -/
theorem first_ascii {s : ByteArray} (h : ∀ i, i < s.size → bt s i < 128) (k : Nat) : first s k = -1 := by
  by_cases hk : k < s.size
  · have hs : siz s k = 1 := (cp_one hk (h k hk)).2
    rw [first_more hk (by omega), hs]
    exact first_ascii h (k + 1)
  · exact first_end (by omega)
termination_by s.size - k

end Go.Proofs.YtmmigpncoojobacDoor
