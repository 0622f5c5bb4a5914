/- The texts of durations: plain facts. No condition. -/
import Derived.Test.YtodfajjkngjgdaaDoorCalO
namespace Go.Proofs.YtodfajjkngjgdaaDoor
open Go Go.RowKit Go.PlainAid

/-! ### The parts of a duration -/

def unitB : Nat → List UInt8
  | 0 => [100]
  | 1 => [104]
  | 2 => [109]
  | 3 => [115]
  | _ => [109, 115]
def unitN : Nat → Nat
  | 0 => 86400000
  | 1 => 3600000
  | 2 => 60000
  | 3 => 1000
  | _ => 1
def partsT : List (Nat × Nat) → List UInt8
  | [] => []
  | p :: ps => Lib.decDigits p.1 ++ (unitB p.2 ++ partsT ps)
def partsN : List (Nat × Nat) → Nat
  | [] => 0
  | p :: ps => p.1 * unitN p.2 + partsN ps
def PartsOk (ps : List (Nat × Nat)) : Prop := ∀ p ∈ ps, p.1 ≤ 999999 ∧ p.2 ≤ 4
def one (n k : Nat) : List (Nat × Nat) := if n = 0 then [] else [(n, k)]
def rem (m : Nat) : Nat → Nat
  | 0 => m
  | k + 1 => rem m k % unitN k
def pref (m : Nat) : Nat → List (Nat × Nat)
  | 0 => []
  | k + 1 => pref m k ++ one (rem m k / unitN k) k
def parts (m : Nat) : List (Nat × Nat) := if m = 0 then [(0, 3)] else pref m 5
/-- a duration's text -/
def spanT (m : Nat) : List UInt8 := partsT (parts m)

theorem partsT_append (a b : List (Nat × Nat)) : partsT (a ++ b) = partsT a ++ partsT b := by
  induction a with
  | nil => rfl
  | cons p ps ih => simp only [List.cons_append, partsT, ih, List.append_assoc]
theorem partsN_append (a b : List (Nat × Nat)) : partsN (a ++ b) = partsN a + partsN b := by
  induction a with
  | nil => simp [partsN]
  | cons p ps ih => simp only [List.cons_append, partsN, ih, Nat.add_assoc]
theorem partsN_one (n k : Nat) : partsN (one n k) = n * unitN k := by
  unfold one; split
  · rename_i h; subst h; simp [partsN]
  · simp [partsN]
theorem unitN_pos (k : Nat) : 0 < unitN k := by unfold unitN; split <;> decide
theorem rem_le (m : Nat) : ∀ k, rem m k ≤ m
  | 0 => Nat.le_refl _
  | k + 1 => Nat.le_trans (Nat.mod_le _ _) (rem_le m k)
theorem pref_N (m : Nat) : ∀ k, partsN (pref m k) + rem m k = m
  | 0 => by simp [pref, partsN, rem]
  | k + 1 => by
    have := pref_N m k
    rw [pref, partsN_append, partsN_one, rem, Nat.add_assoc, Nat.mul_comm (rem m k / unitN k), Nat.div_add_mod]
    exact this
theorem rem5 (m : Nat) : rem m 5 = 0 := by
  show rem m 4 % 1 = 0
  omega
theorem parts_N (m : Nat) : partsN (parts m) = m := by
  unfold parts; split
  · rename_i h; subst h; rfl
  · have := pref_N m 5
    rw [rem5] at this
    omega
theorem one_ok {n k : Nat} (hn : n ≤ 999999) (hk : k ≤ 4) : PartsOk (one n k) := by
  intro p hp
  unfold one at hp
  split at hp
  · cases hp
  · obtain rfl : p = (n, k) := by simpa using hp
    exact ⟨hn, hk⟩
theorem PartsOk.append {a b : List (Nat × Nat)} (ha : PartsOk a) (hb : PartsOk b) : PartsOk (a ++ b) := by
  intro p hp
  rcases List.mem_append.1 hp with h | h
  · exact ha p h
  · exact hb p h
theorem rem_lt (m k : Nat) : rem m (k + 1) < unitN k := Nat.mod_lt _ (unitN_pos k)
theorem quo_le (m k : Nat) (hm : m ≤ 17592186044416) (hk : k ≤ 4) : rem m k / unitN k ≤ 999999 := by
  match k, hk with
  | 0, _ => show m / 86400000 ≤ 999999; omega
  | 1, _ => have : rem m 1 < 86400000 := rem_lt m 0
            show rem m 1 / 3600000 ≤ 999999; omega
  | 2, _ => have : rem m 2 < 3600000 := rem_lt m 1
            show rem m 2 / 60000 ≤ 999999; omega
  | 3, _ => have : rem m 3 < 60000 := rem_lt m 2
            show rem m 3 / 1000 ≤ 999999; omega
  | 4, _ => have : rem m 4 < 1000 := rem_lt m 3
            show rem m 4 / 1 ≤ 999999; omega
theorem pref_ok (m : Nat) (hm : m ≤ 17592186044416) : ∀ k, k ≤ 5 → PartsOk (pref m k)
  | 0, _ => fun p hp => by cases hp
  | k + 1, hk => (pref_ok m hm k (by omega)).append (one_ok (quo_le m k hm (by omega)) (by omega))
theorem parts_ok (m : Nat) (hm : m ≤ 17592186044416) : PartsOk (parts m) := by
  unfold parts; split
  · intro p hp
    obtain rfl : p = (0, 3) := by simpa using hp
    exact ⟨by decide, by decide⟩
  · exact pref_ok m hm 5 (by omega)
theorem unitB_len (k : Nat) : 1 ≤ (unitB k).length ∧ (unitB k).length ≤ 2 := by unfold unitB; split <;> decide
theorem nDigits6 {n : Nat} (h : n ≤ 999999) : Lib.nDigits n ≤ 6 := by
  rcases Nat.lt_or_ge 6 (Lib.nDigits n) with c | c
  · exfalso
    obtain ⟨k, hk⟩ : ∃ k, Lib.nDigits n = k + 7 := ⟨Lib.nDigits n - 7, by omega⟩
    have hp : ∀ (k n : Nat), Lib.nDigits n = k + 1 → 10 ^ k ≤ n ∨ n = 0 := by
      intro k
      induction k with
      | zero => intro n _; rcases Nat.eq_zero_or_pos n with h | h
                · exact .inr h
                · left; rw [Nat.pow_zero]; exact h
      | succ k ih =>
        intro n hn
        by_cases h : n < 10
        · rw [Lib.nDigits_small h] at hn; omega
        · rw [Lib.nDigits_big h] at hn
          rcases ih (n / 10) (by omega) with h1 | h1
          · left; rw [Nat.pow_succ]; omega
          · omega
    rcases hp (k + 6) n (by omega) with h1 | h1
    · have : 10 ^ 6 ≤ 10 ^ (k + 6) := Nat.pow_le_pow_right (by decide) (by omega)
      have e : 10 ^ 6 = 1000000 := by decide
      omega
    · subst h1
      rw [Lib.nDigits_small (by decide)] at hk
      omega
  · exact c
theorem partsT_one_len (n k : Nat) (h : n ≤ 999999) : (partsT (one n k)).length ≤ 8 := by
  unfold one; split
  · simp [partsT]
  · simp only [partsT, List.append_nil, List.length_append, Lib.decDigits_length]
    have := nDigits6 h
    have := unitB_len k
    omega
theorem pref_len (m : Nat) (hm : m ≤ 17592186044416) : ∀ k, k ≤ 5 → (partsT (pref m k)).length ≤ 8 * k
  | 0, _ => by simp [pref, partsT]
  | k + 1, hk => by
    have h1 := pref_len m hm k (by omega)
    have h2 := partsT_one_len _ k (quo_le m k hm (by omega))
    rw [pref, partsT_append, List.length_append]
    omega
theorem spanT_len (m : Nat) (hm : m ≤ 17592186044416) : (spanT m).length ≤ 40 := by
  unfold spanT parts; split
  · rw [partsT, partsT, digits_lt10 (by decide)]; decide
  · exact pref_len m hm 5 (by omega)

/-! ### Digits at the beginning -/

def isDg (c : UInt8) : Prop := 48 ≤ (c.toNat : Int) ∧ (c.toNat : Int) ≤ 57
/-- a list that doesn't begin with a digit -/
def NoDg (l : List UInt8) : Prop := ∀ c, l.head? = some c → ¬ isDg c
/-- a list that doesn't begin with anything but a digit -/
def OnDg (l : List UInt8) : Prop := ∀ c, l.head? = some c → isDg c
theorem decDigits_dg (n : Nat) : ∀ c ∈ Lib.decDigits n, isDg c := by
  induction n using Nat.strongRecOn with
  | _ n ih =>
    by_cases h : n < 10
    · rw [digits_lt10 h]
      intro c hc
      obtain rfl : c = dgt n := by simpa using hc
      unfold isDg; rw [dgt_nat h]; omega
    · rw [digits_more h]
      intro c hc
      rcases List.mem_append.1 hc with hc | hc
      · exact ih _ (by omega) c hc
      · obtain rfl : c = dgt (n % 10) := by simpa using hc
        unfold isDg; rw [dgt_nat (by omega)]; omega
theorem decDigits_ne (n : Nat) : Lib.decDigits n ≠ [] := by
  intro h
  have := congrArg List.length h
  rw [Lib.decDigits_length] at this
  have h2 := Lib.nDigits_pos n
  rw [List.length_nil] at this; omega
theorem unitB_no (k : Nat) : ∀ c ∈ unitB k, ¬ isDg c := by
  unfold unitB isDg; split <;> intro c hc <;> simp at hc
  · subst hc; decide
  · subst hc; decide
  · subst hc; decide
  · subst hc; decide
  · rcases hc with rfl | rfl <;> decide
theorem head_append {a b : List UInt8} (h : a ≠ []) : (a ++ b).head? = a.head? := by
  cases a with
  | nil => exact absurd rfl h
  | cons x xs => rfl
theorem partsT_on (ps : List (Nat × Nat)) : OnDg (partsT ps) := by
  intro c hc
  cases ps with
  | nil => cases hc
  | cons p ps =>
    rw [partsT, head_append (decDigits_ne _)] at hc
    exact decDigits_dg p.1 c (List.mem_of_head? hc)
theorem unit_no (k : Nat) (r : List UInt8) : NoDg (unitB k ++ r) := by
  intro c hc
  have hne : unitB k ≠ [] := by
    intro h
    have := (unitB_len k).1
    rw [h] at this; simp at this
  rw [head_append hne] at hc
  exact unitB_no k c (List.mem_of_head? hc)

/-- k is the number of the digits at the beginning -/
def Lead (s : ByteArray) (k : Nat) : Prop := k ≤ s.size ∧ digs s k ∧ (k < s.size → ¬ (48 ≤ bt s k ∧ bt s k ≤ 57))
/-- k is the number of the bytes before the first digit -/
def Name (s : ByteArray) (k : Nat) : Prop := k ≤ s.size ∧ (∀ i, i < k → ¬ (48 ≤ bt s i ∧ bt s i ≤ 57)) ∧ (k < s.size → 48 ≤ bt s k ∧ bt s k ≤ 57)
theorem lead_ex (s : ByteArray) : ∃ k, Lead s k := by
  have h : ∀ m k, k + m = s.size → digs s k → ∃ k, Lead s k := by
    intro m
    induction m with
    | zero => intro k hk hd; exact ⟨k, by omega, hd, fun h => by omega⟩
    | succ m ih =>
      intro k hk hd
      by_cases c : 48 ≤ bt s k ∧ bt s k ≤ 57
      · exact ih (k + 1) (by omega) (digs_more hd c.1 c.2)
      · exact ⟨k, by omega, hd, fun _ => c⟩
  exact h s.size 0 (by omega) (fun i hi => by omega)
theorem name_ex (s : ByteArray) : ∃ k, Name s k := by
  have h : ∀ m k, k + m = s.size → (∀ i, i < k → ¬ (48 ≤ bt s i ∧ bt s i ≤ 57)) → ∃ k, Name s k := by
    intro m
    induction m with
    | zero => intro k hk hd; exact ⟨k, by omega, hd, fun h => by omega⟩
    | succ m ih =>
      intro k hk hd
      by_cases c : 48 ≤ bt s k ∧ bt s k ≤ 57
      · exact ⟨k, by omega, hd, fun _ => c⟩
      · refine ih (k + 1) (by omega) (fun i hi => ?_)
        by_cases e : i = k
        · subst e; exact c
        · exact hd i (by omega)
  exact h s.size 0 (by omega) (fun i hi => by omega)

/-- the bytes from k on -/
def dropB (s : ByteArray) (k : Nat) : ByteArray := ⟨(s.data.toList.drop k).toArray⟩
theorem dropB_list (s : ByteArray) (k : Nat) : (dropB s k).data.toList = s.data.toList.drop k := rfl
theorem dropB_size (s : ByteArray) (k : Nat) : (dropB s k).size = s.size - k := by rw [← size_list, dropB_list, List.length_drop, size_list]
theorem bt_list {s : ByteArray} {a r : List UInt8} (h : s.data.toList = a ++ r) {i : Nat} (hi : i < a.length) : ∃ c ∈ a, bt s i = (c.toNat : Int) := by
  refine ⟨a[i], List.getElem_mem hi, ?_⟩
  rw [bt_of h, List.getElem?_append_left hi, List.getElem?_eq_getElem hi]
  rfl
theorem bt_head {s : ByteArray} {a r : List UInt8} (h : s.data.toList = a ++ r) (hz : a.length < s.size) : ∃ c, r.head? = some c ∧ bt s a.length = (c.toNat : Int) := by
  have hr : 0 < r.length := by
    have := congrArg List.length h
    rw [List.length_append, size_list] at this; omega
  refine ⟨r[0], by rw [List.head?_eq_getElem?, List.getElem?_eq_getElem hr], ?_⟩
  rw [bt_of h, List.getElem?_append_right (Nat.le_refl _), Nat.sub_self, List.getElem?_eq_getElem hr]
  rfl
theorem size_of {s : ByteArray} {l : List UInt8} (h : s.data.toList = l) : s.size = l.length := by rw [← size_list, h]
theorem lead_of {s : ByteArray} {a r : List UInt8} (h : s.data.toList = a ++ r) (ha : ∀ c ∈ a, isDg c) (hr : NoDg r) : Lead s a.length := by
  refine ⟨?_, fun i hi => ?_, fun hz => ?_⟩
  · rw [size_of h, List.length_append]; omega
  · obtain ⟨c, hc, e⟩ := bt_list h hi
    rw [e]; exact ha c hc
  · obtain ⟨c, hc, e⟩ := bt_head h hz
    rw [e]; exact hr c hc
theorem name_of {s : ByteArray} {a r : List UInt8} (h : s.data.toList = a ++ r) (ha : ∀ c ∈ a, ¬ isDg c) (hr : OnDg r) : Name s a.length := by
  refine ⟨?_, fun i hi => ?_, fun hz => ?_⟩
  · rw [size_of h, List.length_append]; omega
  · obtain ⟨c, hc, e⟩ := bt_list h hi
    rw [e]; exact ha c hc
  · obtain ⟨c, hc, e⟩ := bt_head h hz
    rw [e]; exact hr c hc

/-! ### The number that digits say -/

theorem num_pos {s : ByteArray} : ∀ {k : Nat}, digs s k → 0 ≤ num s k ∧ num s k < (10 ^ k : Nat)
  | 0, _ => by simp [num]
  | k + 1, h => by
    have ih := num_pos (s := s) (k := k) (fun i hi => h i (by omega))
    have hk := h k (by omega)
    rw [num, Nat.pow_succ]
    push_cast at *
    omega
theorem num_le {s : ByteArray} {k e : Nat} (h : digs s k) (hk : k ≤ e) : 0 ≤ num s k ∧ num s k < (10 ^ e : Nat) := by
  have h1 := num_pos h
  have h2 : 10 ^ k ≤ 10 ^ e := Nat.pow_le_pow_right (by decide) hk
  omega
theorem num_congr {s t : ByteArray} : ∀ {k : Nat}, (∀ i, i < k → bt s i = bt t i) → num s k = num t k
  | 0, _ => rfl
  | k + 1, h => by rw [num, num, num_congr (fun i hi => h i (by omega)), h k (by omega)]
theorem num_dec (n : Nat) : ∀ (s : ByteArray) (r : List UInt8), s.data.toList = Lib.decDigits n ++ r → num s (Lib.nDigits n) = n := by
  induction n using Nat.strongRecOn with
  | _ n ih =>
    intro s r h
    by_cases c : n < 10
    · rw [digits_lt10 c] at h
      rw [Lib.nDigits_small c]
      have b := bt_of h 0
      simp only [List.cons_append, List.getElem?_cons_zero, Option.getD_some] at b
      rw [dgt_nat c] at b
      simp only [num]
      omega
    · rw [digits_more c] at h
      rw [Lib.nDigits_big c, num, ih (n / 10) (by omega) s ([dgt (n % 10)] ++ r) (by rw [h, List.append_assoc])]
      have b := bt_of h (Lib.nDigits (n / 10))
      rw [List.append_assoc, List.getElem?_append_right (by rw [Lib.decDigits_length]; omega), Lib.decDigits_length, Nat.sub_self] at b
      simp only [List.cons_append, List.nil_append, List.getElem?_cons_zero, Option.getD_some] at b
      rw [dgt_nat (by omega)] at b
      rw [b]; omega
end Go.Proofs.YtodfajjkngjgdaaDoor
