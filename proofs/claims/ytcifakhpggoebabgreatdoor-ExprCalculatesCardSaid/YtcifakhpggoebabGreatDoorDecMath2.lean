/- More plain arithmetic of digits: rows of zeros, sums with a carry, products, trimmed rows. No condition. -/
import Derived.Test.YtcifakhpggoebabGreatDoorDecMath
namespace Go.Proofs.YtcifakhpggoebabGreatDoor

theorem sgn_range (z : Int) : -1 ≤ sgn z ∧ sgn z ≤ 1 := by unfold sgn; repeat' split <;> omega
theorem sgn_neg (z : Int) : sgn (-z) = - sgn z := by unfold sgn; repeat' split <;> omega
theorem sgn_pos {z : Int} (h : 0 < z) : sgn z = 1 := by unfold sgn; rw [if_neg (by omega), if_neg (by omega)]
theorem sgn_of_neg {z : Int} (h : z < 0) : sgn z = -1 := by unfold sgn; rw [if_pos h]
theorem sgn_eq_zero {z : Int} : sgn z = 0 ↔ z = 0 := by unfold sgn; repeat' split <;> omega
theorem sgn_natAbs (z : Int) : sgn z * (z.natAbs : Int) = z := by
  unfold sgn
  split
  · omega
  · split
    · subst_vars; rfl
    · omega

theorem dg_append_left {l m : List Int} {i : Nat} (h : i < l.length) : dg (l ++ m) i = dg l i := by
  simp [dg, List.getD, List.getElem?_append_left h]
theorem dg_append_right {l m : List Int} {i : Nat} (h : l.length ≤ i) : dg (l ++ m) i = dg m (i - l.length) := by
  simp [dg, List.getD, List.getElem?_append_right h]
theorem V_append (l m : List Int) : V (dg (l ++ m)) (l ++ m).length = V (dg l) l.length + 10 ^ l.length * V (dg m) m.length := by
  induction l with
  | nil => simp [V]
  | cons d l ih =>
    rw [List.cons_append, List.length_cons, V_cons, ih, List.length_cons, V_cons, p10_succ, Int.mul_add, Int.mul_assoc]
    omega
theorem V_snoc (l : List Int) (d : Int) : V (dg (l ++ [d])) (l.length + 1) = V (dg l) l.length + d * 10 ^ l.length := by
  rw [V, dg_append_right (Nat.le_refl _), Nat.sub_self]
  rw [V_congr (f := dg (l ++ [d])) (g := dg l) fun i hi => dg_append_left hi]
  rfl
theorem V_zeros (k : Nat) : V (dg (List.replicate k 0)) k = 0 := by
  induction k with
  | zero => rfl
  | succ k ih => rw [List.replicate_succ, V_cons, ih]; rfl
theorem digs_shift {n : Nat} (h : n ≠ 0) (k : Nat) : List.replicate k (0 : Int) ++ digs n = digs (n * 10 ^ k) := by
  have hv : V (dg (List.replicate k (0 : Int) ++ digs n)) (List.replicate k (0 : Int) ++ digs n).length = ((n * 10 ^ k : Nat) : Int) := by
    rw [V_append, List.length_replicate, V_zeros, digs_V]
    push_cast
    rw [Int.zero_add, Int.mul_comm]
  have hne : digs n ≠ [] := by rw [digs_ne h]; simp
  have := digs_unique (List.replicate k (0 : Int) ++ digs n) (fun d hd => by
    rcases List.mem_append.1 hd with hd | hd
    · rw [(List.mem_replicate.1 hd).2]; decide
    · exact digs_range n d hd) (fun hh => by
    rw [List.getLast_append_of_ne_nil _ hne]
    exact digs_last n hne)
  rw [this, hv, Int.toNat_natCast]

/-- one round of a sum with a carry -/
theorem sum_round {fa fb fo : Nat → Int} {s c c' d : Int} {i : Nat} (h : V fo i + c * 10 ^ i = V fa i + s * V fb i) (ho : fo i = d) (e : d + 10 * c' = fa i + s * fb i + c) :
    V fo (i + 1) + c' * 10 ^ (i + 1) = V fa (i + 1) + s * V fb (i + 1) := by
  rw [V, V, V, ho, p10_succ, Int.mul_add, ← Int.mul_assoc s]
  have h1 : (d + 10 * c') * 10 ^ i = (fa i + s * fb i + c) * 10 ^ i := by rw [e]
  rw [Int.add_mul, Int.add_mul, Int.add_mul] at h1
  have h2 : c' * (10 * 10 ^ i) = 10 * c' * 10 ^ i := by rw [← Int.mul_assoc, Int.mul_comm c' 10]
  rw [h2]
  omega
/-- no carry is left at the end -/
theorem carry_end {x c y : Int} {n : Nat} (h : x + c * 10 ^ n = y) (h0 : 0 ≤ x) (h1 : x < 10 ^ n) (g0 : 0 ≤ y) (g1 : y < 10 ^ n) : c = 0 := by
  have hp := p10_pos n
  rcases Int.lt_trichotomy c 0 with hc | hc | hc
  · have : c * 10 ^ n ≤ (-1) * 10 ^ n := Int.mul_le_mul_of_nonneg_right (by omega) (by omega)
    omega
  · exact hc
  · have : 1 * 10 ^ n ≤ c * 10 ^ n := Int.mul_le_mul_of_nonneg_right (by omega) (by omega)
    omega
theorem V_mono_len {f : Nat → Int} (h : ∀ i, 0 ≤ f i) {n m : Nat} (hnm : n ≤ m) : V f n ≤ V f m := by
  induction m with
  | zero => obtain rfl : n = 0 := by omega
            exact Int.le_refl _
  | succ m ih =>
    by_cases e : n = m + 1
    · subst e; exact Int.le_refl _
    · have h1 := ih (by omega)
      have h2 : 0 ≤ f m * 10 ^ m := Int.mul_nonneg (h m) (Int.le_of_lt (p10_pos m))
      rw [V]; omega
end Go.Proofs.YtcifakhpggoebabGreatDoor
