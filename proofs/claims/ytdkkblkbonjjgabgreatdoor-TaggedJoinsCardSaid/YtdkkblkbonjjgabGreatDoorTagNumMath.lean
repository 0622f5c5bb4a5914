/- Numbers in groups of seven bits: the bytes of a number, and what a text says that holds them. No condition. -/
import Derived.Test.YtdkkblkbonjjgabGreatDoorTagMath
import Derived.Laws.BytesArg
namespace Go.Proofs.YtdkkblkbonjjgabGreatDoor
open Go Go.PlainAid Go.RowKit

/-- the bytes of a number -/
def putL (n : Nat) : List Int := if h : n < 128 then [(n : Int)] else ((n % 128 + 128 : Nat) : Int) :: putL (n / 128)
termination_by n
decreasing_by omega
theorem putL_small {n : Nat} (h : n < 128) : putL n = [(n : Int)] := by rw [putL, dif_pos h]
theorem putL_more {n : Nat} (h : ¬ n < 128) : putL n = ((n % 128 + 128 : Nat) : Int) :: putL (n / 128) := by rw [putL, dif_neg h]
theorem putL_pos (n : Nat) : 0 < (putL n).length := by
  by_cases h : n < 128
  · rw [putL_small h]; simp
  · rw [putL_more h]; simp
theorem putL_len : ∀ (k n : Nat), n < 128 ^ (k + 1) → (putL n).length ≤ k + 1
  | 0, n, h => by rw [putL_small (by simpa using h)]; simp
  | k + 1, n, h => by
    by_cases hn : n < 128
    · rw [putL_small hn]; simp
    · rw [putL_more hn, List.length_cons]
      have : n / 128 < 128 ^ (k + 1) := by
        rw [Nat.div_lt_iff_lt_mul (by decide)]
        rw [Nat.pow_succ] at h
        exact h
      have := putL_len k (n / 128) this
      omega
theorem putL_bytes : ∀ (n : Nat), ∀ b ∈ putL n, 0 ≤ b ∧ b ≤ 255 := by
  intro n
  induction n using Nat.strongRecOn with
  | ind n ih =>
    intro b hb
    by_cases hn : n < 128
    · rw [putL_small hn, List.mem_singleton] at hb
      omega
    · rw [putL_more hn] at hb
      rcases List.mem_cons.1 hb with rfl | hb
      · omega
      · exact ih (n / 128) (by omega) b hb

/-- a text holds these bytes at an offset -/
def Has (s : ByteArray) (f : Nat) (l : List Int) : Prop := ∀ i, i < l.length → f + i < s.size ∧ bt s (f + i) = l.getD i 0
theorem Has.tail {s : ByteArray} {f : Nat} {b : Int} {l : List Int} (h : Has s f (b :: l)) : Has s (f + 1) l := by
  intro i hi
  have := h (i + 1) (by simp; omega)
  rw [show f + 1 + i = f + (i + 1) by omega]
  simpa using this
theorem lo_head (s : ByteArray) (f : Nat) : ∀ k, lo s f (k + 1) = bt s f % 128 + 128 * lo s (f + 1) k
  | 0 => by simp [lo]
  | k + 1 => by
    rw [lo, lo_head s f k, lo, show f + (k + 1) = f + 1 + k by omega, Int.pow_succ]
    generalize (128 : Int) ^ k = p
    generalize bt s (f + 1 + k) % 128 = b
    generalize lo s (f + 1) k = l
    rw [Int.mul_add, Int.mul_comm p 128, ← Int.mul_assoc, Int.mul_comm b 128, ← Int.mul_assoc]
    omega
/-- what they say -/
theorem lo_put : ∀ (n f : Nat) (s : ByteArray), Has s f (putL n) → lo s f (putL n).length = n ∧ Hi s f ((putL n).length - 1) ∧ f + (putL n).length - 1 < s.size ∧ bt s (f + ((putL n).length - 1)) < 128 ∧ (0 < (putL n).length - 1 → bt s (f + ((putL n).length - 1)) ≠ 0) := by
  intro n
  induction n using Nat.strongRecOn with
  | ind n ih =>
    intro f s h
    by_cases hn : n < 128
    · rw [putL_small hn] at h ⊢
      have h0 := h 0 (by simp)
      simp only [Nat.add_zero, List.getD_cons_zero] at h0
      simp only [List.length_singleton, lo, Nat.sub_self, Nat.add_zero]
      refine ⟨?_, fun i hi => by omega, by omega, by omega, fun h => by omega⟩
      rw [h0.2]
      simp
      omega
    · rw [putL_more hn] at h ⊢
      have h0 := h 0 (by simp)
      simp only [Nat.add_zero, List.getD_cons_zero] at h0
      obtain ⟨g1, g2, g3, g4, g5⟩ := ih (n / 128) (by omega) (f + 1) s h.tail
      have hp := putL_pos (n / 128)
      obtain ⟨m, hm⟩ : ∃ m, (putL (n / 128)).length = m + 1 := ⟨(putL (n / 128)).length - 1, by omega⟩
      rw [hm] at g1 g2 g3 g4 g5
      rw [List.length_cons, hm]
      rw [show f + 1 + (m + 1 - 1) = f + (m + 1) by omega] at g4 g5
      refine ⟨?_, fun i hi => ?_, by omega, by rw [show m + 1 + 1 - 1 = m + 1 by omega]; exact g4, fun _ => ?_⟩
      · rw [lo_head, g1, h0.2]
        omega
      · cases i with
        | zero => exact ⟨h0.1, by rw [Nat.add_zero, h0.2]; omega⟩
        | succ i =>
          have := g2 i (by omega)
          rw [show f + (i + 1) = f + 1 + i by omega]
          exact this
      · rw [show m + 1 + 1 - 1 = m + 1 by omega]
        by_cases hz : 0 < m + 1 - 1
        · exact g5 hz
        · have hm0 : m = 0 := by omega
          subst hm0
          have hone : n / 128 < 128 := by
            by_cases q : n / 128 < 128
            · exact q
            · rw [putL_more q, List.length_cons] at hm
              have := putL_pos (n / 128 / 128)
              omega
          have h1 := h.tail 0 (by rw [putL_small hone]; simp)
          rw [putL_small hone] at h1
          simp only [Nat.add_zero, List.getD_cons_zero] at h1
          rw [h1.2]
          omega
/-- Take behind the bytes that stand ahead of it -/
theorem take_put {s : ByteArray} {f n : Nat} (hn : n < 4611686018427387904) (h : Has s f (putL n)) :
    Stop s f ((putL n).length - 1) ∧ takeN s f ((putL n).length - 1) = ((n : Int), ((f + (putL n).length : Nat) : Int), 0) := by
  obtain ⟨g1, g2, g3, g4, g5⟩ := lo_put n f s h
  have hl := putL_len 8 n (by have : (128 : Nat) ^ (8 + 1) = 9223372036854775808 := by decide
                              omega)
  have hp := putL_pos n
  have hst : Stop s f ((putL n).length - 1) := ⟨g2, by omega, by omega, .inr (.inr ⟨by omega, g4⟩)⟩
  refine ⟨hst, ?_⟩
  have hk : (putL n).length - 1 + 1 = (putL n).length := by omega
  have hbig := lo_big s f ((putL n).length - 1) (by omega) g4
  rw [hk, g1] at hbig
  rcases hst.parts with ⟨a, _⟩ | ⟨_, a, _⟩ | ⟨_, _, _, a, b, _⟩ | ⟨a, _, _, b, _⟩ | ⟨_, _, _, _, _, _, p⟩
  · omega
  · omega
  · exact absurd b (g5 a)
  · have := hbig.2 ⟨a, b⟩
    omega
  · rw [p, hk, g1, show f + ((putL n).length - 1) + 1 = f + (putL n).length by omega]
end Go.Proofs.YtdkkblkbonjjgabGreatDoor
