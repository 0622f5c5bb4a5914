/- Products of rows of digits: plain arithmetic. No condition. -/
import Derived.Test.YtgppimdakafniaaDoorDecMath2
namespace Go.Proofs.YtgppimdakafniaaDoor

theorem dg_set {l : List Int} {j : Nat} (h : j < l.length) (x : Int) (i : Nat) : dg (l.set j x) i = if i = j then x else dg l i := by
  unfold dg
  rw [List.getD_eq_getElem?_getD, List.getElem?_set]
  by_cases e : j = i
  · subst e; simp [h]
  · rw [if_neg e, if_neg (fun g => e g.symm), List.getD_eq_getElem?_getD]
theorem V_put {f g : Nat → Int} {j n : Nat} {x : Int} (h : j < n) (hj : g j = f j + x) (ho : ∀ i, i ≠ j → g i = f i) : V g n = V f n + x * 10 ^ j := by
  induction n with
  | zero => omega
  | succ n ih =>
    by_cases e : j = n
    · subst e
      rw [V, V, V_congr (f := g) (g := f) fun i hi => ho i (by omega), hj, Int.add_mul]; omega
    · rw [V, V, ih (by omega), ho n (fun g => e g.symm)]; omega
theorem V_set {l : List Int} {j : Nat} (h : j < l.length) (x : Int) : V (dg (l.set j (dg l j + x))) l.length = V (dg l) l.length + x * 10 ^ j :=
  V_put h (by rw [dg_set h, if_pos rfl]) fun i hi => by rw [dg_set h, if_neg hi]
/-- one carry -/
theorem V_carry {l : List Int} {j : Nat} (h : j + 1 < l.length) (d : Int) (q : Int) (e : dg l j = d + 10 * q) :
    V (dg ((l.set (j + 1) (dg l (j + 1) + q)).set j d)) l.length = V (dg l) l.length := by
  have h1 := V_set (l := l) h q
  have hl : (l.set (j + 1) (dg l (j + 1) + q)).length = l.length := List.length_set
  have h2 := V_set (l := l.set (j + 1) (dg l (j + 1) + q)) (j := j) (by rw [hl]; omega) (-(10 * q))
  have e1 : dg (l.set (j + 1) (dg l (j + 1) + q)) j + -(10 * q) = d := by
    rw [dg_set h, if_neg (by omega), e]; omega
  rw [e1, hl, h1] at h2
  rw [h2, p10_succ, ← Int.mul_assoc, Int.mul_comm q 10, Int.neg_mul]
  omega
/-- the last place is empty -/
theorem V_last {f : Nat → Int} {n : Nat} (h0 : ∀ i, i < n → 0 ≤ f i) (hn : 0 ≤ f n) (h : V f (n + 1) < 10 ^ n) : f n = 0 := by
  have hp := p10_pos n
  have h1 := V_nonneg (f := f) (n := n) h0
  by_cases h2 : f n < 1
  · omega
  · exfalso
    have h2 : 1 ≤ f n := by omega
    have h3 : 1 * 10 ^ n ≤ f n * 10 ^ n := Int.mul_le_mul_of_nonneg_right h2 (by omega)
    rw [V] at h
    omega
theorem mul_lt_p10 {x y : Int} {a b : Nat} (hx : 0 ≤ x) (hx' : x < 10 ^ a) (hy' : y < 10 ^ b) : x * y < 10 ^ (a + b) := by
  rw [Int.pow_add]
  have h1 : x * y ≤ x * 10 ^ b := Int.mul_le_mul_of_nonneg_left (by omega) hx
  have h2 : x * 10 ^ b < 10 ^ a * 10 ^ b := Int.mul_lt_mul_of_pos_right hx' (p10_pos b)
  omega
end Go.Proofs.YtgppimdakafniaaDoor
