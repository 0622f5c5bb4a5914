/- Digits of a quotient in a row of digits: plain arithmetic. No condition. -/
import Derived.Test.YtgppimdakafniaaDoorDecNearMath
namespace Go.Proofs.YtgppimdakafniaaDoor

theorem dg_cons_succ (d : Int) (l : List Int) (i : Nat) : dg (d :: l) (i + 1) = dg l i := by simp [dg]
theorem dg_digs (i : Nat) : ∀ X : Nat, dg (digs X) i = ((X / 10 ^ i % 10 : Nat) : Int) := by
  induction i with
  | zero =>
    intro X
    by_cases h : X = 0
    · subst h; rw [digs_zero]; rfl
    · rw [digs_ne h, Nat.pow_zero, Nat.div_one]; rfl
  | succ i ih =>
    intro X
    by_cases h : X = 0
    · subst h; rw [digs_zero, Nat.zero_div]; rfl
    · rw [digs_ne h, dg_cons_succ, ih, Nat.div_div_eq_div_mul, Nat.pow_succ, Nat.mul_comm 10]
theorem near_step {X b m n : Nat} {l : List Int} (hb : 0 < b) (hm : m < n) (hl : l.length = n) (hz : dg l m = 0) (hV : V (dg l) n = ((X / 10 ^ (m + 1) / b : Nat) : Int) * 10 ^ (m + 1)) :
    V (dg (l.set m (qdig X b m : Int))) n = ((X / 10 ^ m / b : Nat) : Int) * 10 ^ m := by
  subst hl
  have h := V_set hm (qdig X b m : Int)
  rw [hz, Int.zero_add] at h
  have e := (qdig_step X b m hb).1
  rw [h, hV, e, p10_succ, ← Int.mul_assoc, ← Int.add_mul]
  push_cast
  rw [Int.mul_comm 10]
theorem near_q {r a b q t : Nat} (hr : r < b) (ha : a ≤ 9) (e : 10 * r + a = b * q + t) : q ≤ 9 := by
  rcases Nat.lt_or_ge 9 q with h | h
  · have : b * 10 ≤ b * q := Nat.mul_le_mul_left _ h
    omega
  · exact h
theorem near_done {r a b q t : Nat} (ht : t < b) (e : 10 * r + a = b * q + t) : q = (10 * r + a) / b ∧ t = (10 * r + a) % b := by
  rw [e]
  constructor
  · rw [Nat.mul_add_div (by omega), Nat.div_eq_of_lt ht, Nat.add_zero]
  · rw [Nat.mul_add_mod, Nat.mod_eq_of_lt ht]
theorem near_more {r a b q t : Nat} (h : b ≤ t) (e : 10 * r + a = b * q + t) : 10 * r + a = b * (q + 1) + (t - b) := by rw [Nat.mul_succ]; omega
theorem set_self0 {l : List Int} {m : Nat} (hm : m < l.length) (h : dg l m = 0) : l.set m 0 = l := by
  have : l[m] = 0 := by simpa [dg, List.getD, hm] using h
  rw [← this]; exact List.set_getElem_self hm
theorem V_parity (f : Nat → Int) (n : Nat) : (V f (n + 1) - f 0) % 2 = 0 := by
  induction n with
  | zero => simp [V]
  | succ n ih =>
    rw [V, p10_succ, show f (n + 1) * (10 * 10 ^ n) = 2 * (f (n + 1) * (5 * 10 ^ n)) by rw [Int.mul_left_comm, show (10 : Int) = 2 * 5 by rfl, Int.mul_assoc, Int.mul_left_comm (f (n + 1)) 5]]
    omega
theorem range_of_dg {l : List Int} (h : ∀ j, 0 ≤ dg l j ∧ dg l j ≤ 9) : ∀ d ∈ l, 0 ≤ d ∧ d ≤ 9 := by
  intro y hy
  obtain ⟨i, hi, rfl⟩ := List.getElem_of_mem hy
  have e : l[i] = dg l i := by simp [dg, List.getD, hi]
  rw [e]; exact h i
theorem cons_range {a : Int} {t : Nat} (h : 0 ≤ a ∧ a ≤ 9) : ∀ d ∈ a :: digs t, 0 ≤ d ∧ d ≤ 9 := by
  intro d hd
  rcases List.mem_cons.1 hd with rfl | hd
  · exact h
  · exact digs_range t d hd
theorem V_cons_digs (a t : Nat) : V (dg ((a : Int) :: digs t)) ((a : Int) :: digs t).length = ((10 * t + a : Nat) : Int) := by
  rw [List.length_cons, V_cons, digs_V]; push_cast; omega
theorem digs_len_mul {t b : Nat} (h : t < 10 * b) : (digs t).length ≤ (digs b).length + 1 := by
  refine digs_len (k := (digs b).length + 1) ?_
  have := digs_lt b
  rw [Nat.pow_succ]; omega
theorem lt_p10_digs (X : Nat) : X / 10 ^ (digs X).length = 0 := Nat.div_eq_of_lt (digs_lt X)
/-- half even by a comparison of twice the rest -/
theorem he_up {x y : Nat} (hy : 0 < y) (h : y < x % y + x % y ∨ (x % y + x % y = y ∧ x / y % 2 = 1)) : he x y = x / y + 1 := by
  rw [he_cases x y hy, if_pos (by omega)]
theorem he_down {x y : Nat} (hy : 0 < y) (h : ¬ (y < x % y + x % y ∨ (x % y + x % y = y ∧ x / y % 2 = 1))) : he x y = x / y := by
  rw [he_cases x y hy, if_neg (by omega)]
theorem he_scale (x y k : Nat) (hk : 0 < k) (hy : 0 < y) : he (x * k) (y * k) = he x y := by
  unfold he
  rw [Nat.mul_div_mul_right _ _ hk, Nat.mul_mod_mul_right]
  have h1 := Nat.mod_lt x hy
  generalize x % y = r at *
  have e : y * k - r * k = (y - r) * k := (Nat.sub_mul y r k).symm
  rw [e]
  have a1 : (y - r) * k < r * k ↔ y - r < r := Nat.mul_lt_mul_right hk
  have a2 : r * k = (y - r) * k ↔ r = y - r := ⟨fun h => Nat.eq_of_mul_eq_mul_right hk h, fun h => by rw [← h]⟩
  simp only [a1, a2]
/-- the quotient of the shifted numbers -/
theorem he_quo (x y m n : Nat) (hy : 0 < y) : he (x * 10 ^ m) (y * 10 ^ n) = quoN x y ((m : Int) - (n : Int)) := by
  unfold quoN
  by_cases h : (m : Int) - (n : Int) < 0
  · rw [if_pos h, show (-((m : Int) - (n : Int))).toNat = n - m by omega]
    have e : y * 10 ^ n = y * 10 ^ (n - m) * 10 ^ m := by rw [Nat.mul_assoc, ← Nat.pow_add, show n - m + m = n by omega]
    rw [e]
    exact he_scale _ _ _ (Nat.pow_pos (by decide)) (Nat.mul_pos hy (Nat.pow_pos (by decide)))
  · rw [if_neg h, show ((m : Int) - (n : Int)).toNat = m - n by omega]
    have e : x * 10 ^ m = x * 10 ^ (m - n) * 10 ^ n := by rw [Nat.mul_assoc, ← Nat.pow_add, show m - n + n = m by omega]
    rw [e]
    exact he_scale _ _ _ (Nat.pow_pos (by decide)) hy
end Go.Proofs.YtgppimdakafniaaDoor
