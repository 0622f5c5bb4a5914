/- Plain arithmetic of decimal numbers: scaled integers, digits. No condition. -/
import Lean.Elab.Tactic.Omega
namespace Go.Proofs.YtcifakhpggoebabGreatDoor

/-- ten to a power -/
def ten (k : Int) : Int := 10 ^ k.toNat
theorem ten_pos (k : Int) : 0 < ten k := Int.pow_pos (by decide)
theorem ten_zero : ten 0 = 1 := rfl
theorem ten_add {a b : Int} (ha : 0 ≤ a) (hb : 0 ≤ b) : ten (a + b) = ten a * ten b := by
  unfold ten
  rw [Int.toNat_add ha hb, Int.pow_add]
/-- an integer of one scale at another one -/
def sca (n s m : Int) : Int := n * ten (m - s)
theorem sca_self (n s : Int) : sca n s s = n := by unfold sca; rw [Int.sub_self, ten_zero, Int.mul_one]
theorem sca_sca (n : Int) {s m l : Int} (h : s ≤ m) (g : m ≤ l) : sca (sca n s m) m l = sca n s l := by
  unfold sca
  rw [Int.mul_assoc, ← ten_add (by omega) (by omega), show m - s + (l - m) = l - s by omega]
def sgn (z : Int) : Int := if z < 0 then -1 else if z = 0 then 0 else 1
theorem sgn_mul (z : Int) {t : Int} (ht : 0 < t) : sgn (z * t) = sgn z := by
  unfold sgn
  rcases Int.lt_trichotomy z 0 with h | h | h
  · have : z * t < 0 := Int.mul_neg_of_neg_of_pos h ht
    rw [if_pos this, if_pos h]
  · subst h; simp
  · have : 0 < z * t := Int.mul_pos h ht
    rw [if_neg (by omega), if_neg (by omega), if_neg (by omega), if_neg (by omega)]
/-- the comparison of two decimal numbers -/
def cmpI (a sa b sb : Int) : Int := sgn (sca a sa (max sa sb) - sca b sb (max sa sb))
theorem cmp_at {a sa b sb m : Int} (h : sa ≤ m) (g : sb ≤ m) : cmpI a sa b sb = sgn (sca a sa m - sca b sb m) := by
  unfold cmpI
  rw [← sca_sca a (show sa ≤ max sa sb by omega) (show max sa sb ≤ m by omega), ← sca_sca b (show sb ≤ max sa sb by omega) (show max sa sb ≤ m by omega)]
  unfold sca
  rw [← Int.sub_mul, sgn_mul _ (ten_pos _)]
theorem sca_bound {n s m b : Int} (h : s ≤ m) (g : m - s ≤ 12) (hn : -b ≤ n) (hp : n ≤ b) : -(b * 1000000000000) ≤ sca n s m ∧ sca n s m ≤ b * 1000000000000 := by
  have ht : ten (m - s) ≤ 1000000000000 := by
    unfold ten
    exact Int.le_of_sub_nonneg (by
      have h1 : (10 : Int) ^ (m - s).toNat ≤ 10 ^ 12 := by
        have : (m - s).toNat ≤ 12 := by omega
        have h2 : (10 : Nat) ^ (m - s).toNat ≤ 10 ^ 12 := Nat.pow_le_pow_right (by decide) this
        exact_mod_cast h2
      have h3 : (10 : Int) ^ 12 = 1000000000000 := by decide
      omega)
  have h0 := ten_pos (m - s)
  unfold sca
  have hb : 0 ≤ b := by omega
  constructor
  · have h1 : (-b) * ten (m - s) ≤ n * ten (m - s) := Int.mul_le_mul_of_nonneg_right hn (by omega)
    have h2 : b * ten (m - s) ≤ b * 1000000000000 := Int.mul_le_mul_of_nonneg_left ht hb
    rw [Int.neg_mul] at h1
    omega
  · have h1 : n * ten (m - s) ≤ b * ten (m - s) := Int.mul_le_mul_of_nonneg_right hp (by omega)
    have h2 : b * ten (m - s) ≤ b * 1000000000000 := Int.mul_le_mul_of_nonneg_left ht hb
    omega

/-- the laws of an order, of the signs of three differences -/
theorem orders (x y z : Int) : sgn (y - x) = - sgn (x - y) ∧ sgn (x - x) = 0 ∧ (sgn (x - y) > 0 ∨ sgn (y - z) > 0 ∨ sgn (x - z) ≤ 0) ∧ (sgn (x - y) < 0 ∨ sgn (y - z) < 0 ∨ 0 ≤ sgn (x - z)) ∧ (0 ≤ sgn (x - y) ∨ sgn (y - z) > 0 ∨ sgn (x - z) < 0) := by
  unfold sgn
  refine ⟨?_, ?_, ?_, ?_, ?_⟩ <;> (repeat' split) <;> omega

/-- the value of digits, the last one first -/
def V (f : Nat → Int) : Nat → Int
  | 0 => 0
  | n + 1 => V f n + f n * 10 ^ n
theorem V_congr {f g : Nat → Int} {n : Nat} (h : ∀ i, i < n → f i = g i) : V f n = V g n := by
  induction n with
  | zero => rfl
  | succ n ih => rw [V, V, ih fun i hi => h i (by omega), h n (by omega)]
theorem p10_pos (n : Nat) : (0 : Int) < 10 ^ n := Int.pow_pos (by decide)
theorem p10_succ (n : Nat) : (10 : Int) ^ (n + 1) = 10 * 10 ^ n := by rw [Int.pow_succ, Int.mul_comm]
theorem V_bound {f : Nat → Int} {n : Nat} (h : ∀ i, i < n → 0 ≤ f i ∧ f i ≤ 9) : 0 ≤ V f n ∧ V f n < 10 ^ n := by
  induction n with
  | zero => exact ⟨Int.le_refl _, Int.one_pos⟩
  | succ n ih =>
    obtain ⟨a, b⟩ := ih fun i hi => h i (by omega)
    obtain ⟨c, d⟩ := h n (by omega)
    have hp := p10_pos n
    rw [V, p10_succ]
    have h1 : 0 ≤ f n * 10 ^ n := Int.mul_nonneg c (by omega)
    have h2 : f n * 10 ^ n ≤ 9 * 10 ^ n := Int.mul_le_mul_of_nonneg_right d (by omega)
    omega
theorem V_nonneg {f : Nat → Int} {n : Nat} (h : ∀ i, i < n → 0 ≤ f i) : 0 ≤ V f n := by
  induction n with
  | zero => exact Int.le_refl _
  | succ n ih =>
    have h1 : 0 ≤ f n * 10 ^ n := Int.mul_nonneg (h n (by omega)) (Int.le_of_lt (p10_pos n))
    have := ih fun i hi => h i (by omega)
    rw [V]; omega
theorem V_zero_from {f : Nat → Int} {n k : Nat} (h : ∀ i, n ≤ i → i < n + k → f i = 0) : V f (n + k) = V f n := by
  induction k with
  | zero => rfl
  | succ k ih =>
    rw [← Nat.add_assoc, V, ih fun i a b => h i a (by omega), h (n + k) (by omega) (by omega), Int.zero_mul, Int.add_zero]
theorem V_ext {f : Nat → Int} {n m : Nat} (hnm : n ≤ m) (h : ∀ i, n ≤ i → i < m → f i = 0) : V f m = V f n := by
  obtain ⟨k, rfl⟩ := Nat.exists_eq_add_of_le hnm
  exact V_zero_from h
theorem V_lt {f g : Nat → Int} {n k : Nat} (hk : k < n) (hf : ∀ i, i < n → 0 ≤ f i ∧ f i ≤ 9) (hg : ∀ i, i < n → 0 ≤ g i ∧ g i ≤ 9) (he : ∀ i, k < i → i < n → f i = g i) (hlt : f k < g k) : V f n < V g n := by
  induction n with
  | zero => omega
  | succ n ih =>
    by_cases e : k = n
    · subst e
      have a := (V_bound fun i hi => hf i (Nat.lt_succ_of_lt hi)).2
      have b := (V_bound fun i hi => hg i (Nat.lt_succ_of_lt hi)).1
      have hp := p10_pos k
      have h1 : (f k + 1) * 10 ^ k ≤ g k * 10 ^ k := Int.mul_le_mul_of_nonneg_right (by omega) (by omega)
      rw [Int.add_mul, Int.one_mul] at h1
      rw [V, V]; omega
    · have := ih (by omega) (fun i hi => hf i (by omega)) (fun i hi => hg i (by omega)) (fun i a b => he i a (by omega))
      rw [V, V, he n (by omega) (by omega)]; omega

/-- the digits of a number, the last one first -/
def digs (n : Nat) : List Int := if h : n = 0 then [] else ((n % 10 : Nat) : Int) :: digs (n / 10)
termination_by n
decreasing_by exact Nat.div_lt_self (by omega) (by decide)
def dg (l : List Int) (i : Nat) : Int := l.getD i 0
theorem dg_out {l : List Int} {i : Nat} (h : l.length ≤ i) : dg l i = 0 := by
  unfold dg; rw [List.getD_eq_getElem?_getD, List.getElem?_eq_none h]; rfl
theorem V_cons (d : Int) (l : List Int) (n : Nat) : V (dg (d :: l)) (n + 1) = d + 10 * V (dg l) n := by
  induction n with
  | zero => simp [V, dg]
  | succ n ih =>
    rw [V, ih, V, p10_succ]
    have : dg (d :: l) (n + 1) = dg l n := by simp [dg]
    rw [this, Int.mul_add, Int.mul_left_comm]
    omega
theorem digs_ne {n : Nat} (h : n ≠ 0) : digs n = ((n % 10 : Nat) : Int) :: digs (n / 10) := by rw [digs, dif_neg h]
theorem digs_zero : digs 0 = [] := by rw [digs, dif_pos rfl]
theorem digs_V (n : Nat) : V (dg (digs n)) (digs n).length = n := by
  induction n using Nat.strongRecOn with
  | _ n ih =>
    by_cases h : n = 0
    · subst h; rw [digs_zero]; rfl
    · rw [digs_ne h, List.length_cons, V_cons, ih (n / 10) (Nat.div_lt_self (by omega) (by decide))]
      omega
theorem digs_range (n : Nat) : ∀ d ∈ digs n, 0 ≤ d ∧ d ≤ 9 := by
  induction n using Nat.strongRecOn with
  | _ n ih =>
    by_cases h : n = 0
    · subst h; rw [digs_zero]; intro d hd; cases hd
    · rw [digs_ne h]
      intro d hd
      rcases List.mem_cons.1 hd with rfl | hd
      · omega
      · exact ih _ (Nat.div_lt_self (by omega) (by decide)) d hd
theorem dg_range {l : List Int} (h : ∀ d ∈ l, 0 ≤ d ∧ d ≤ 9) (i : Nat) : 0 ≤ dg l i ∧ dg l i ≤ 9 := by
  unfold dg
  by_cases hi : i < l.length
  · have : l.getD i 0 = l[i] := by simp [List.getD, hi]
    rw [this]; exact h _ (List.getElem_mem hi)
  · rw [List.getD_eq_getElem?_getD, List.getElem?_eq_none (by omega)]
    decide
/-- digits without a zero in front are those of their value -/
theorem digs_unique : ∀ (l : List Int), (∀ d ∈ l, 0 ≤ d ∧ d ≤ 9) → (∀ h : l ≠ [], l.getLast h ≠ 0) → l = digs (V (dg l) l.length).toNat
  | [], _, _ => by rw [show V (dg []) ([] : List Int).length = 0 from rfl, Int.toNat_zero, digs_zero]
  | d :: l, h, hl => by
    have h0 := h d (List.mem_cons_self ..)
    have hr := fun x hx => h x (List.mem_cons_of_mem d hx)
    have hb := V_bound (f := dg l) (n := l.length) fun i _ => dg_range hr i
    have ih := digs_unique l hr (fun hne => by have := hl (by simp); rwa [List.getLast_cons hne] at this)
    rw [List.length_cons, V_cons]
    have hne : (d + 10 * V (dg l) l.length).toNat ≠ 0 := by
      intro e
      have h1 : d = 0 := by omega
      have h2 : V (dg l) l.length = 0 := by omega
      rw [h2, Int.toNat_zero, digs_zero] at ih
      subst ih
      exact hl (by simp) (by simpa using h1)
    rw [digs_ne hne]
    have e1 : (((d + 10 * V (dg l) l.length).toNat % 10 : Nat) : Int) = d := by omega
    have e2 : (d + 10 * V (dg l) l.length).toNat / 10 = (V (dg l) l.length).toNat := by omega
    rw [e1, e2, ← ih]
theorem digs_last (n : Nat) (h : digs n ≠ []) : (digs n).getLast h ≠ 0 := by
  induction n using Nat.strongRecOn with
  | _ n ih =>
    by_cases h0 : n = 0
    · subst h0; exact absurd digs_zero h
    · have hd := digs_ne h0
      by_cases h1 : digs (n / 10) = []
      · have : n / 10 = 0 := by
          have := digs_V (n / 10)
          rw [h1] at this
          simp [V] at this
          omega
        simp only [hd, h1, List.getLast_singleton]
        omega
      · have := ih _ (Nat.div_lt_self (by omega) (by decide)) h1
        simp only [hd]
        rwa [List.getLast_cons h1]
theorem digs_len {n k : Nat} (h : n < 10 ^ k) : (digs n).length ≤ k := by
  induction k generalizing n with
  | zero => obtain rfl : n = 0 := by simpa using h
            rw [digs_zero]; exact Nat.le_refl _
  | succ k ih =>
    by_cases h0 : n = 0
    · subst h0; rw [digs_zero]; simp
    · rw [digs_ne h0, List.length_cons]
      have : n / 10 < 10 ^ k := by rw [Nat.pow_succ] at h; omega
      have := ih this
      omega
theorem digs_lt (n : Nat) : n < 10 ^ (digs n).length := by
  have h := (V_bound (f := dg (digs n)) (n := (digs n).length) fun i _ => dg_range (digs_range n) i).2
  rw [digs_V] at h
  exact_mod_cast h
/-- the value at more places than there are digits -/
theorem digs_at (n : Nat) {m : Nat} (h : (digs n).length ≤ m) : V (dg (digs n)) m = n := by
  rw [V_ext h fun i a _ => dg_out a, digs_V]
/-- the digits of a trimmed row -/
theorem digs_trim {l : List Int} {k : Nat} (hr : ∀ d ∈ l, 0 ≤ d ∧ d ≤ 9) (hk : k ≤ l.length) (hz : ∀ i, k ≤ i → i < l.length → dg l i = 0) (hl : k = 0 ∨ dg l (k - 1) ≠ 0) : l.take k = digs (V (dg l) l.length).toNat := by
  have hlen : (l.take k).length = k := by simp; omega
  have e : ∀ i, i < k → dg (l.take k) i = dg l i := fun i hi => by simp [dg, List.getD, hi]
  have hv : V (dg (l.take k)) (l.take k).length = V (dg l) l.length := by
    rw [hlen, V_ext hk hz]
    exact V_congr e
  rw [← hv]
  refine digs_unique _ (fun d hd => hr d (List.mem_of_mem_take hd)) fun hne => ?_
  have hk0 : k ≠ 0 := fun h0 => hne (by rw [h0]; rfl)
  rw [List.getLast_eq_getElem]
  rcases hl with h | h
  · exact absurd h hk0
  · have : (l.take k)[(l.take k).length - 1]'(by omega) = dg l (k - 1) := by
      simp only [hlen, List.getElem_take]
      simp [dg, List.getD, show k - 1 < l.length by omega]
    rw [this]; exact h
end Go.Proofs.YtcifakhpggoebabGreatDoor
