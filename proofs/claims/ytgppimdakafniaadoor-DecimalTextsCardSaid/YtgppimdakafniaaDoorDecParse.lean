/- Decimal texts: what their characters come to. Arithmetic and lists; no condition. -/
import Derived.Test.YtgppimdakafniaaDoorDecTextDef
import Derived.Lib.Strings
import Derived.Lib.IndexMore
namespace Go.Proofs.YtgppimdakafniaaDoor
open Go

/-- the value of decimal characters behind a value a -/
def vals (a : Int) : List UInt8 → Int
  | [] => a
  | c :: l => vals (a * 10 + ((c.toNat : Int) - 48)) l
/-- all characters are digits -/
def okd (l : List UInt8) : Prop := ∀ c ∈ l, 48 ≤ c.toNat ∧ c.toNat ≤ 57
theorem okd_nil : okd [] := fun _ h => by cases h
theorem okd_append {a b : List UInt8} (ha : okd a) (hb : okd b) : okd (a ++ b) := fun c h => (List.mem_append.1 h).elim (ha c) (hb c)
theorem vals_append (l : List UInt8) : ∀ (a : Int) (k : List UInt8), vals a (l ++ k) = vals (vals a l) k := by
  induction l with
  | nil => intro a k; rfl
  | cons c l ih => intro a k; exact ih _ _
theorem vals_snoc (a : Int) (l : List UInt8) (c : UInt8) : vals a (l ++ [c]) = vals a l * 10 + ((c.toNat : Int) - 48) := by rw [vals_append]; rfl
theorem vals_bound : ∀ (l : List UInt8) (a : Int), okd l → 0 ≤ a → a ≤ vals a l ∧ vals a l < (a + 1) * 10 ^ l.length
  | [], a, _, _ => by simp [vals]; omega
  | c :: l, a, h, h0 => by
    have hc := h c (List.mem_cons_self ..)
    have ih := vals_bound l (a * 10 + ((c.toNat : Int) - 48)) (fun x hx => h x (List.mem_cons_of_mem _ hx)) (by omega)
    refine ⟨by have := ih.1; show a ≤ vals _ l; omega, Int.lt_of_lt_of_le ih.2 ?_⟩
    rw [List.length_cons, Int.pow_succ, Int.mul_comm (10 ^ l.length) 10, ← Int.mul_assoc]
    refine Int.mul_le_mul_of_nonneg_right (by omega) (Int.le_of_lt (p10_pos _))
theorem toNat_ofNat48 {d : Nat} (h : d < 10) : (UInt8.ofNat (48 + d)).toNat = 48 + d := by
  rw [UInt8.toNat_ofNat']; omega
theorem dec_ok (m : Nat) : okd (Lib.decDigits m) := by
  induction m using Nat.strongRecOn with
  | ind m ih =>
    rw [Lib.decDigits]
    split
    · intro c hc
      rw [List.mem_singleton.1 hc, toNat_ofNat48 (by omega)]; omega
    · refine okd_append (ih _ (by omega)) fun c hc => ?_
      rw [List.mem_singleton.1 hc, toNat_ofNat48 (by omega)]; omega
theorem dec_vals (m : Nat) : vals 0 (Lib.decDigits m) = m := by
  induction m using Nat.strongRecOn with
  | ind m ih =>
    rw [Lib.decDigits]
    split
    · show (0 : Int) * 10 + (((UInt8.ofNat (48 + m)).toNat : Int) - 48) = m
      rw [toNat_ofNat48 (by omega)]; omega
    · rw [vals_snoc, ih _ (by omega), toNat_ofNat48 (by omega)]; omega
theorem zeros_ok (z : Nat) : okd (List.replicate z 48) := fun c h => by rw [(List.mem_replicate.1 h).2]; decide
theorem zeros_vals (z : Nat) : vals 0 (List.replicate z 48) = 0 := by
  induction z with
  | zero => rfl
  | succ z ih => rw [List.replicate_succ]; exact ih
theorem pad_ok (m s : Nat) : okd (padD m s) := okd_append (zeros_ok _) (dec_ok _)
theorem pad_vals (m s : Nat) : vals 0 (padD m s) = m := by rw [padD, vals_append, zeros_vals, dec_vals]
theorem pad_len (m s : Nat) : (padD m s).length = max (Lib.decDigits m).length (s + 1) := by
  rw [padD, List.length_append, List.length_replicate]; omega

/-- a text: sign, whole part, and the rest -/
def forms (neg : Bool) (A : List UInt8) (dot : Bool) (B : List UInt8) : List UInt8 := (if neg then [45] else []) ++ (A ++ (if dot then 46 :: B else []))
theorem text_forms (n : Int) (s : Nat) : ∃ A B dot, textL n s = forms (decide (n < 0)) A dot B ∧ A ≠ [] ∧ okd (A ++ B) ∧ vals 0 (A ++ B) = n.natAbs ∧ B.length = s ∧ (dot = false → B = []) ∧ (A ++ B).length = max (Lib.decDigits n.natAbs).length (s + 1) := by
  by_cases hs : s = 0
  · subst hs
    refine ⟨Lib.decDigits n.natAbs, [], false, ?_, ?_, ?_, ?_, rfl, fun _ => rfl, ?_⟩
    · unfold textL forms; rw [if_pos rfl]; by_cases h : n < 0 <;> simp [h]
    · intro h; have := (Lib.decDigits_length n.natAbs).symm.trans (congrArg List.length h); have := Lib.nDigits_pos n.natAbs; simp at *; omega
    · rw [List.append_nil]; exact dec_ok _
    · rw [List.append_nil]; exact dec_vals _
    · rw [List.append_nil, Lib.decDigits_length]; have := Lib.nDigits_pos n.natAbs; omega
  · have hl := pad_len n.natAbs s
    refine ⟨(padD n.natAbs s).take ((padD n.natAbs s).length - s), (padD n.natAbs s).drop ((padD n.natAbs s).length - s), true, ?_, ?_, ?_, ?_, ?_, (fun h => by cases h), ?_⟩
    · unfold textL forms; rw [if_neg hs]; by_cases h : n < 0 <;> simp [h]
    · intro h; have := congrArg List.length h; rw [List.length_take] at this; simp at this; omega
    · rw [List.take_append_drop]; exact pad_ok _ _
    · rw [List.take_append_drop]; exact pad_vals _ _
    · rw [List.length_drop]; omega
    · rw [List.take_append_drop]; exact hl

theorem index_dot : ∀ (A B : List UInt8), okd A → Lib.index (A ++ 46 :: B) [46] = A.length
  | [], B, _ => by simp [Lib.index]
  | a :: A, B, h => by
    have ih := index_dot A B fun x hx => h x (List.mem_cons_of_mem _ hx)
    have ha := h a (List.mem_cons_self ..)
    have hne : ¬ (46 = a) := fun e => by subst e; exact absurd ha.1 (by decide)
    rw [List.cons_append, Lib.index, ih]
    simp [hne]
theorem index_nodot : ∀ (A : List UInt8), okd A → Lib.index A [46] = -1
  | [], _ => by simp [Lib.index]
  | a :: A, h => by
    have ih := index_nodot A fun x hx => h x (List.mem_cons_of_mem _ hx)
    have ha := h a (List.mem_cons_self ..)
    have hne : ¬ (46 = a) := fun e => by subst e; exact absurd ha.1 (by decide)
    rw [Lib.index, ih]
    simp [hne]
theorem cut_dot {A B : List UInt8} (h : okd A) : Lib.cut (A ++ 46 :: B) [46] = (A, B, true) := by
  unfold Lib.cut
  rw [index_dot A B h, if_pos (by omega)]
  simp [List.drop_append]
theorem cut_nodot {A : List UInt8} (h : okd A) : Lib.cut A [46] = (A, [], false) := by
  unfold Lib.cut
  rw [index_nodot A h, if_neg (by omega)]

/-- what the program reads of a text -/
def rdNeg (L : List UInt8) : Bool := Lib.hasPrefix L [45]
def rdCut (L : List UInt8) : List UInt8 × List UInt8 × Bool := Lib.cut (Lib.trimPrefix L [45]) [46]
def rdDig (L : List UInt8) : List UInt8 := (rdCut L).1 ++ (rdCut L).2.1
def rdInt (L : List UInt8) : Int := if rdNeg L then -vals 0 (rdDig L) else vals 0 (rdDig L)
def rdScale (L : List UInt8) : Nat := (rdCut L).2.1.length
theorem cut_len (L sep : List UInt8) : (Lib.cut L sep).1.length + (Lib.cut L sep).2.1.length ≤ L.length := by
  unfold Lib.cut
  split
  · simp only [List.length_take, List.length_drop]; omega
  · simp
theorem trim_len (L p : List UInt8) : (Lib.trimPrefix L p).length ≤ L.length := by
  unfold Lib.trimPrefix
  split
  · rw [List.length_drop]; omega
  · exact Nat.le_refl _
theorem rd_len (L : List UInt8) : (rdDig L).length ≤ L.length := by
  unfold rdDig rdCut
  rw [List.length_append]
  exact Nat.le_trans (cut_len _ _) (trim_len _ _)
theorem trim_forms {neg : Bool} {A B : List UInt8} {dot : Bool} (hA : A ≠ []) (ok : okd (A ++ B)) : Lib.hasPrefix (forms neg A dot B) [45] = neg ∧ Lib.trimPrefix (forms neg A dot B) [45] = A ++ (if dot then 46 :: B else []) := by
  cases neg with
  | true => simp [forms, Lib.hasPrefix, Lib.trimPrefix]
  | false =>
    cases A with
    | nil => exact absurd rfl hA
    | cons a A =>
      have ha := ok a (by simp)
      have hne : ¬ (45 = a) := fun e => by subst e; exact absurd ha.1 (by decide)
      simp [forms, Lib.hasPrefix, Lib.trimPrefix, List.isPrefixOf, hne]
/-- the program reads a number's text as the number -/
theorem read_text (n : Int) (s : Nat) : okd (rdDig (textL n s)) ∧ rdInt (textL n s) = n ∧ rdScale (textL n s) = s := by
  obtain ⟨A, B, dot, e, hA, ok, hv, hl, hd, _⟩ := text_forms n s
  rw [e]
  obtain ⟨t1, t2⟩ := trim_forms (neg := decide (n < 0)) (dot := dot) hA ok
  have okA : okd A := fun c h => ok c (List.mem_append_left _ h)
  have hc : rdCut (forms (decide (n < 0)) A dot B) = (A, B, dot) := by
    unfold rdCut
    rw [t2]
    cases dot with
    | true => exact cut_dot okA
    | false => rw [hd rfl, if_neg (by decide), List.append_nil]; exact cut_nodot okA
  have hD : rdDig (forms (decide (n < 0)) A dot B) = A ++ B := by unfold rdDig; rw [hc]
  refine ⟨by rw [hD]; exact ok, ?_, by unfold rdScale; rw [hc]; exact hl⟩
  unfold rdInt rdNeg
  rw [t1, hD, hv]
  by_cases h : n < 0
  · simp [h]; omega
  · simp [h]; omega

/-- what the reference reads of a text: value, scale, and whether there was a point -/
def rst : List UInt8 → Int × Nat × Bool → Int × Nat × Bool
  | [], t => t
  | c :: l, t => rst l (if 48 ≤ c.toNat ∧ c.toNat ≤ 57 then (10 * t.1 + ((c.toNat : Int) - 48), if (t.2.2 || c == 46) then t.2.1 + 1 else t.2.1, t.2.2 || c == 46) else (t.1, t.2.1, t.2.2 || c == 46))
theorem rst_append (l : List UInt8) : ∀ (t : Int × Nat × Bool) (k : List UInt8), rst (l ++ k) t = rst k (rst l t) := by
  induction l with
  | nil => intro t k; rfl
  | cons c l ih => intro t k; exact ih _ _
theorem rst_digits : ∀ (l : List UInt8) (v : Int) (s : Nat) (p : Bool), okd l → rst l (v, s, p) = (vals v l, if p then s + l.length else s, p)
  | [], v, s, p, _ => by cases p <;> rfl
  | c :: l, v, s, p, h => by
    have hc := h c (List.mem_cons_self ..)
    have hne : (c == 46) = false := by
      rcases hb : (c == 46) with _ | _
      · rfl
      · have := eq_of_beq hb; subst this; exact absurd hc.1 (by decide)
    rw [rst, if_pos hc, hne, rst_digits l _ _ _ fun x hx => h x (List.mem_cons_of_mem _ hx)]
    cases p
    · simp [vals, Int.mul_comm]
    · simp [vals, Int.mul_comm]; omega
def refInt (L : List UInt8) : Int := if L.head? = some 45 then -(rst L (0, 0, false)).1 else (rst L (0, 0, false)).1
def refScale (L : List UInt8) : Nat := (rst L (0, 0, false)).2.1
theorem rst_bound : ∀ (l : List UInt8) (t : Int × Nat × Bool), 0 ≤ t.1 → t.1 ≤ (rst l t).1 ∧ (rst l t).1 < (t.1 + 1) * 10 ^ l.length ∧ (rst l t).2.1 ≤ t.2.1 + l.length
  | [], t, h => by simp [rst]; omega
  | c :: l, t, h => by
    rw [rst]
    have hp := p10_pos l.length
    by_cases hc : 48 ≤ c.toNat ∧ c.toNat ≤ 57
    · rw [if_pos hc]
      have ih := rst_bound l (10 * t.1 + ((c.toNat : Int) - 48), if (t.2.2 || c == 46) then t.2.1 + 1 else t.2.1, t.2.2 || c == 46) (by show 0 ≤ 10 * t.1 + ((c.toNat : Int) - 48); omega)
      refine ⟨?_, Int.lt_of_lt_of_le ih.2.1 ?_, ?_⟩
      · have := ih.1; simp only at this; omega
      · rw [List.length_cons, Int.pow_succ, Int.mul_comm (10 ^ l.length) 10, ← Int.mul_assoc]
        refine Int.mul_le_mul_of_nonneg_right (by simp only; omega) (Int.le_of_lt hp)
      · have := ih.2.2
        have h9 : (if (t.2.2 || c == 46) then t.2.1 + 1 else t.2.1) ≤ t.2.1 + 1 := by split <;> omega
        simp only at this
        rw [List.length_cons]
        omega
    · rw [if_neg hc]
      have ih := rst_bound l (t.1, t.2.1, t.2.2 || c == 46) h
      refine ⟨ih.1, Int.lt_of_lt_of_le ih.2.1 ?_, ?_⟩
      · rw [List.length_cons, Int.pow_succ, Int.mul_comm (10 ^ l.length) 10, ← Int.mul_assoc]
        refine Int.mul_le_mul_of_nonneg_right (by simp only; omega) (Int.le_of_lt hp)
      · have := ih.2.2; simp only at this; rw [List.length_cons]; omega
/-- the reference reads a number's text as the number -/
theorem ref_text (n : Int) (s : Nat) : refInt (textL n s) = n ∧ refScale (textL n s) = s := by
  obtain ⟨A, B, dot, e, hA, ok, hv, hl, hd, _⟩ := text_forms n s
  rw [e]
  have okA : okd A := fun c h => ok c (List.mem_append_left _ h)
  have okB : okd B := fun c h => ok c (List.mem_append_right _ h)
  have hsg : rst (if decide (n < 0) = true then [45] else []) (0, 0, false) = (0, 0, false) := by
    by_cases h : n < 0
    · simp [h, rst]
    · simp [h, rst]
  have hr : rst (forms (decide (n < 0)) A dot B) (0, 0, false) = ((n.natAbs : Int), s, dot) := by
    unfold forms
    rw [rst_append, hsg, rst_append, rst_digits A 0 0 false okA]
    cases dot with
    | false =>
      have := hd rfl
      subst this
      rw [List.append_nil] at hv
      simp [rst, hv, ← hl]
    | true =>
      rw [if_pos rfl]
      show rst B (vals 0 A, 0, true) = _
      rw [rst_digits B _ _ _ okB, ← vals_append, hv, ← hl]
      simp
  have hh : ((forms (decide (n < 0)) A dot B).head? = some 45) ↔ n < 0 := by
    by_cases h : n < 0
    · simp [forms, h]
    · cases A with
      | nil => exact absurd rfl hA
      | cons a A =>
        have ha := ok a (by simp)
        have hne : ¬ (a = 45) := fun e => by subst e; exact absurd ha.1 (by decide)
        simp [forms, h, hne]
  refine ⟨?_, by unfold refScale; rw [hr]⟩
  unfold refInt
  rw [hr]
  by_cases h : n < 0
  · rw [if_pos (hh.2 h)]; show -(n.natAbs : Int) = n; omega
  · rw [if_neg fun e => h (hh.1 e)]; show (n.natAbs : Int) = n; omega

/-- the reference's text, digit by digit from the last one -/
def chr (d : Int) : UInt8 := UInt8.ofNat (48 + d.toNat)
def back (m s : Nat) : Nat → List UInt8
  | 0 => []
  | k + 1 => chr (dg (digs m) k) :: (if k = s ∧ 0 < k then 46 :: back m s k else back m s k)
def bare (m : Nat) : Nat → List UInt8
  | 0 => []
  | k + 1 => chr (dg (digs m) k) :: bare m k
theorem bare_len (m : Nat) : ∀ k, (bare m k).length = k
  | 0 => rfl
  | k + 1 => by rw [bare, List.length_cons, bare_len m k]
theorem bare_eq (m : Nat) : ∀ k, Lib.nDigits m ≤ k → bare m k = List.replicate (k - Lib.nDigits m) 48 ++ Lib.decDigits m := by
  have key : ∀ (m k : Nat), bare m (k + 1) = bare (m / 10) k ++ [UInt8.ofNat (48 + m % 10)] := by
    intro m k
    have h0 : ∀ j, dg (digs m) (j + 1) = dg (digs (m / 10)) j := fun j => by
      by_cases h : m = 0
      · subst h; rw [digs_zero]; rfl
      · rw [digs_ne h]; rfl
    have h1 : chr (dg (digs m) 0) = UInt8.ofNat (48 + m % 10) := by
      by_cases h : m = 0
      · subst h; rw [digs_zero]; rfl
      · rw [digs_ne h]; rfl
    induction k with
    | zero => show [chr (dg (digs m) 0)] = [UInt8.ofNat (48 + m % 10)]; rw [h1]
    | succ k ih => rw [bare, ih, h0, bare]; rfl
  have hz : ∀ k, bare 0 k = List.replicate k 48 := fun k => by
    induction k with
    | zero => rfl
    | succ k ih => rw [bare, ih, digs_zero, List.replicate_succ]; rfl
  induction m using Nat.strongRecOn with
  | ind m ih =>
    intro k hk
    have := Lib.nDigits_pos m
    obtain ⟨j, rfl⟩ : ∃ j, k = j + 1 := ⟨k - 1, by omega⟩
    rw [key, Lib.decDigits]
    by_cases h : m < 10
    · rw [dif_pos h, show m / 10 = 0 by omega, hz, Lib.nDigits_small h, Nat.mod_eq_of_lt h]; rfl
    · rw [dif_neg h, Lib.nDigits_big h] at *
      rw [ih (m / 10) (by omega) j (by omega), List.append_assoc, show j + 1 - (Lib.nDigits (m / 10) + 1) = j - Lib.nDigits (m / 10) by omega]
theorem back_low (m s : Nat) : ∀ k, k ≤ s ∨ s = 0 → back m s k = bare m k
  | 0, _ => rfl
  | k + 1, h => by
    rw [back, bare, if_neg (by omega), back_low m s k (by omega)]
theorem back_high (m s : Nat) (hs : 0 < s) : ∀ j, back m s (s + (j + 1)) = (bare m (s + (j + 1))).take (j + 1) ++ 46 :: bare m s
  | 0 => by rw [Nat.zero_add, back, bare, if_pos ⟨rfl, hs⟩, back_low m s s (.inl (Nat.le_refl _))]; rfl
  | j + 1 => by
    rw [show s + (j + 1 + 1) = (s + (j + 1)) + 1 by omega, back, bare, if_neg (by omega), back_high m s hs j]; rfl
theorem bare_drop (m : Nat) : ∀ (j k : Nat), (bare m (k + j)).drop j = bare m k
  | 0, k => rfl
  | j + 1, k => by
    rw [← Nat.add_assoc, bare, List.drop_succ_cons, bare_drop m j k]
/-- the reference's text is the text -/
theorem back_text (n : Int) (s : Nat) : (if n < 0 then [45] else []) ++ back n.natAbs s (max (Lib.nDigits n.natAbs) (s + 1)) = textL n s := by
  unfold textL
  congr 1
  by_cases hs : s = 0
  · subst hs
    rw [if_pos rfl, back_low _ _ _ (.inr rfl), bare_eq _ _ (by omega)]
    have := Lib.nDigits_pos n.natAbs
    rw [show max (Lib.nDigits n.natAbs) (0 + 1) - Lib.nDigits n.natAbs = 0 by omega]; rfl
  · rw [if_neg hs]
    obtain ⟨j, hj⟩ : ∃ j, max (Lib.nDigits n.natAbs) (s + 1) = s + (j + 1) := ⟨max (Lib.nDigits n.natAbs) (s + 1) - s - 1, by omega⟩
    have hp : padD n.natAbs s = bare n.natAbs (s + (j + 1)) := by
      rw [bare_eq _ _ (by omega), padD, Lib.decDigits_length]
      congr 2
      omega
    rw [hj, back_high _ _ (by omega), hp, bare_len, show s + (j + 1) - s = j + 1 by omega, bare_drop n.natAbs (j + 1) s, List.append_assoc]; rfl
theorem digs_nd (m : Nat) (s : Nat) : max (digs m).length (s + 1) = max (Lib.nDigits m) (s + 1) := by
  rcases Nat.eq_zero_or_pos m with h | h
  · subst h; rw [digs_zero, Lib.nDigits_small (by omega)]; simp
  · have key : ∀ m : Nat, 0 < m → (digs m).length = Lib.nDigits m := by
      intro m
      induction m using Nat.strongRecOn with
      | ind m ih =>
        intro h
        rw [digs_ne (by omega), List.length_cons]
        by_cases h1 : m < 10
        · rw [Lib.nDigits_small h1, show m / 10 = 0 by omega, digs_zero]; rfl
        · rw [Lib.nDigits_big h1, ih _ (by omega) (by omega)]
    rw [key m h]
theorem text_len (n : Int) (s : Nat) (h : okN n s) : 1 ≤ (textL n s).length ∧ (textL n s).length ≤ 17 := by
  obtain ⟨A, B, dot, e, hA, ok, hv, hl, hd, hlen⟩ := text_forms n s
  have h1 := dec_len n.natAbs (by have := h.1; have := h.2.1; omega)
  have h4 : s ≤ 12 := by have := h.2.2.2; omega
  rw [e]
  unfold forms
  have hA' : 0 < A.length := List.length_pos_iff.2 hA
  rw [List.length_append] at hlen
  rw [List.length_append, List.length_append]
  have b1 : (if decide (n < 0) = true then [(45 : UInt8)] else []).length ≤ 1 := by split <;> simp
  have b2 : (if dot = true then 46 :: B else []).length ≤ B.length + 1 := by split <;> simp
  omega
end Go.Proofs.YtgppimdakafniaaDoor
