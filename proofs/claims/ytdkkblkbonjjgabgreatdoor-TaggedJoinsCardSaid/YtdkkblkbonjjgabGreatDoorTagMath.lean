/- Numbers in groups of seven bits: what the bytes of a text say at an offset. No condition. -/
import Derived.PlainAid
namespace Go.Proofs.YtdkkblkbonjjgabGreatDoor
open Go Go.PlainAid

/-- the first k bytes at f have a further one behind them -/
def Hi (s : ByteArray) (f k : Nat) : Prop := ∀ i, i < k → f + i < s.size ∧ 128 ≤ bt s (f + i)
theorem Hi.more {s : ByteArray} {f k : Nat} (h : Hi s f k) (h1 : f + k < s.size) (h2 : 128 ≤ bt s (f + k)) : Hi s f (k + 1) := by
  intro i hi
  by_cases e : i = k
  · subst e; exact ⟨h1, h2⟩
  · exact h i (by omega)
theorem Hi.less {s : ByteArray} {f k j : Nat} (h : Hi s f k) (hj : j ≤ k) : Hi s f j := fun i hi => h i (by omega)
/-- what the first k bytes say, the least group first -/
def lo (s : ByteArray) (f : Nat) : Nat → Int
  | 0 => 0
  | k + 1 => lo s f k + bt s (f + k) % 128 * (128 : Int) ^ k
/-- what the last j of the bytes up to t say -/
def up (s : ByteArray) (t : Nat) : Nat → Int
  | 0 => 0
  | j + 1 => up s t j * 128 + bt s (t - j) % 128
theorem up_lo (s : ByteArray) (f k : Nat) : ∀ j, j ≤ k + 1 → lo s f (k + 1) = up s (f + k) j * (128 : Int) ^ (k + 1 - j) + lo s f (k + 1 - j) := by
  intro j
  induction j with
  | zero => intro _; simp [up]
  | succ j ih =>
    intro hj
    rw [ih (by omega), show k + 1 - j = (k - j) + 1 by omega, show k + 1 - (j + 1) = k - j by omega]
    simp only [up, lo]
    rw [show f + (k - j) = f + k - j by omega, Int.pow_succ]
    generalize (128 : Int) ^ (k - j) = p
    generalize up s (f + k) j = u
    generalize bt s (f + k - j) % 128 = b
    generalize lo s f (k - j) = l
    rw [Int.add_mul, Int.mul_assoc u 128 p, Int.mul_comm 128 p]
    omega
theorem up_all (s : ByteArray) (f k : Nat) : up s (f + k) (k + 1) = lo s f (k + 1) := by
  have := up_lo s f k (k + 1) (by omega)
  simp [lo] at this
  simpa [lo] using this.symm
theorem pow_list {k : Nat} (h : k ≤ 9) : k = 0 ∨ k = 1 ∨ k = 2 ∨ k = 3 ∨ k = 4 ∨ k = 5 ∨ k = 6 ∨ k = 7 ∨ k = 8 ∨ k = 9 := by omega
theorem lo_bd (s : ByteArray) (f : Nat) : ∀ k, 0 ≤ lo s f k ∧ lo s f k < (128 : Int) ^ k := by
  intro k
  induction k with
  | zero => simp [lo]
  | succ k ih =>
    simp only [lo]
    rw [Int.pow_succ]
    have hp : (0 : Int) < (128 : Int) ^ k := Int.pow_pos (by decide)
    have h0 : 0 ≤ bt s (f + k) % 128 := Int.emod_nonneg _ (by decide)
    have h1 : bt s (f + k) % 128 ≤ 127 := by omega
    generalize (128 : Int) ^ k = p at *
    generalize bt s (f + k) % 128 = b at *
    have h2 : 0 ≤ b * p := Int.mul_nonneg h0 (by omega)
    have h3 : b * p ≤ 127 * p := Int.mul_le_mul_of_nonneg_right h1 (by omega)
    omega
/-- the number of bytes that have a further one behind them: K -/
structure Stop (s : ByteArray) (f K : Nat) : Prop where
  hi : Hi s f K
  le : K ≤ 9
  fit : f + K ≤ s.size
  at_ : K = 9 ∨ f + K = s.size ∨ (f + K < s.size ∧ bt s (f + K) < 128)
theorem stop_ex (s : ByteArray) (f : Nat) (hf : f ≤ s.size) : ∃ K, Stop s f K := by
  have : ∀ n K, 9 - K = n → K ≤ 9 → Hi s f K → f + K ≤ s.size → ∃ K, Stop s f K := by
    intro n
    induction n with
    | zero => intro K h1 h2 h3 h4; exact ⟨K, h3, h2, h4, .inl (by omega)⟩
    | succ n ih =>
      intro K h1 h2 h3 h4
      by_cases a : f + K = s.size
      · exact ⟨K, h3, h2, h4, .inr (.inl a)⟩
      · by_cases b : bt s (f + K) < 128
        · exact ⟨K, h3, h2, h4, .inr (.inr ⟨by omega, b⟩)⟩
        · exact ih (K + 1) (by omega) (by omega) (h3.more (by omega) (by omega)) (by omega)
  exact this 9 0 rfl (by omega) (fun i hi => by omega) (by omega)
open Classical in
/-- the number, the offset behind it, and the error -/
noncomputable def takeN (s : ByteArray) (f K : Nat) : Int × Int × Int :=
  if K = 9 then (0, 0, 3) else if f + K = s.size then (0, 0, 29)
  else if (0 < K ∧ bt s (f + K) = 0) ∨ (K = 8 ∧ 63 < bt s (f + K)) then (0, 0, 3) else (lo s f (K + 1), ((f + K + 1 : Nat) : Int), 0)
/-- the last group makes the number too large where it is the ninth and has more than six bits -/
theorem lo_big (s : ByteArray) (f K : Nat) (hK : K ≤ 8) (hb : bt s (f + K) < 128) : 4611686018427387903 < lo s f (K + 1) ↔ (K = 8 ∧ 63 < bt s (f + K)) := by
  have h0 := bt_nonneg s (f + K)
  have hl := lo_bd s f K
  simp only [lo]
  rw [Int.emod_eq_of_lt h0 hb]
  generalize lo s f K = l at *
  generalize bt s (f + K) = b at *
  by_cases h8 : K = 8
  · subst h8
    simp only [Int.reducePow] at *
    constructor
    · intro h
      exact ⟨trivial, by omega⟩
    · rintro ⟨_, h⟩
      omega
  · have : K = 0 ∨ K = 1 ∨ K = 2 ∨ K = 3 ∨ K = 4 ∨ K = 5 ∨ K = 6 ∨ K = 7 := by omega
    constructor
    · intro h
      exfalso
      rcases this with rfl | rfl | rfl | rfl | rfl | rfl | rfl | rfl <;> simp only [Int.reducePow] at * <;> omega
    · rintro ⟨h, _⟩
      exact absurd h h8
theorem up_bd (s : ByteArray) (f K j : Nat) (hj : j ≤ K + 1) : 0 ≤ up s (f + K) j ∧ up s (f + K) j ≤ lo s f (K + 1) := by
  have h0 : 0 ≤ up s (f + K) j := by
    clear hj
    induction j with
    | zero => simp [up]
    | succ j ih =>
      simp only [up]
      have : 0 ≤ bt s (f + K - j) % 128 := Int.emod_nonneg _ (by decide)
      omega
  refine ⟨h0, ?_⟩
  have h := up_lo s f K j hj
  have hl := (lo_bd s f (K + 1 - j)).1
  have hp : (0 : Int) < (128 : Int) ^ (K + 1 - j) := Int.pow_pos (by decide)
  generalize (128 : Int) ^ (K + 1 - j) = p at *
  generalize up s (f + K) j = u at *
  have : u * 1 ≤ u * p := Int.mul_le_mul_of_nonneg_left (by omega) h0
  omega
/-- the four results -/
theorem Stop.parts {s : ByteArray} {f K : Nat} (h : Stop s f K) :
    (K = 9 ∧ takeN s f K = (0, 0, 3)) ∨ (K ≤ 8 ∧ f + K = s.size ∧ takeN s f K = (0, 0, 29)) ∨
    (K ≤ 8 ∧ f + K < s.size ∧ bt s (f + K) < 128 ∧ 0 < K ∧ bt s (f + K) = 0 ∧ takeN s f K = (0, 0, 3)) ∨
    (K = 8 ∧ f + K < s.size ∧ bt s (f + K) < 128 ∧ 63 < bt s (f + K) ∧ takeN s f K = (0, 0, 3)) ∨
    (K ≤ 8 ∧ f + K < s.size ∧ bt s (f + K) < 128 ∧ (0 < K → bt s (f + K) ≠ 0) ∧ (K = 8 → bt s (f + K) ≤ 63) ∧ lo s f (K + 1) ≤ 4611686018427387903 ∧ takeN s f K = (lo s f (K + 1), ((f + K + 1 : Nat) : Int), 0)) := by
  have hle := h.le
  have hfit := h.fit
  by_cases a : K = 9
  · exact .inl ⟨a, by rw [takeN, if_pos a]⟩
  by_cases b : f + K = s.size
  · exact .inr (.inl ⟨by omega, b, by rw [takeN, if_neg a, if_pos b]⟩)
  have c : f + K < s.size ∧ bt s (f + K) < 128 := by
    rcases h.at_ with x | x | x
    · exact absurd x a
    · exact absurd x b
    · exact x
  by_cases d : 0 < K ∧ bt s (f + K) = 0
  · exact .inr (.inr (.inl ⟨by omega, c.1, c.2, d.1, d.2, by rw [takeN, if_neg a, if_neg b, if_pos (.inl d)]⟩))
  by_cases e : K = 8 ∧ 63 < bt s (f + K)
  · exact .inr (.inr (.inr (.inl ⟨e.1, c.1, c.2, e.2, by rw [takeN, if_neg a, if_neg b, if_pos (.inr e)]⟩)))
  · have hb := lo_big s f K (by omega) c.2
    refine .inr (.inr (.inr (.inr ⟨by omega, c.1, c.2, fun x y => d ⟨x, y⟩, fun x => ?_, ?_, by rw [takeN, if_neg a, if_neg b, if_neg (fun x => x.elim d e)]⟩)))
    · exact Int.not_lt.mp fun y => e ⟨x, y⟩
    · exact Int.not_lt.mp fun y => e (hb.mp y)
end Go.Proofs.YtdkkblkbonjjgabGreatDoor
