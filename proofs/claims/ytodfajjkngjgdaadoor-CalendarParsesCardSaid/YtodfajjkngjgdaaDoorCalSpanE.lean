/- The reference's parser of durations: plain facts, and the number of up to 13 digits. No condition. -/
import Derived.Test.YtodfajjkngjgdaaDoorCalSpanD
namespace Go.Proofs.YtodfajjkngjgdaaDoor
open Go Go.RowKit Go.PlainAid

set_option maxHeartbeats 2000000 in
theorem refNumber_13 (s : ByteArray) (k : Nat) (w : World) (hz : s.size = k) (h4 : k ≤ 13) (hd : digs s k) :
    Calls Tryd.prog 55 #[.string s] w fun e w' => e = .returned (.int .i64 (num s k)) ∧ w' = w := by
  have hb := get_bt s
  have hb0 := bt_nonneg s
  have hb1 := bt_le s
  have HD := hide hd
  clear hd
  go_enter Tryd.func55, Tryd.ntmps55
  go_wp2_with fail
  go_loop [3, 4] (fun r i => ∃ j : Nat, j ≤ k ∧ i = .int .i64 j ∧ r = .int .i64 (num s j)) (fun _ i => k - (intOf i).toNat)
  case atStart => exact ⟨0, by omega, rfl, rfl⟩
  case round =>
    obtain ⟨j, hj, rfl, rfl⟩ := hrel
    have hn := num_le (e := 13) (fun i (hi : i < j) => HD.out i (by omega)) (by omega)
    rw [show ((10 ^ 13 : Nat) : Int) = 10000000000000 by decide] at hn
    obtain ⟨n0, n1⟩ := hn
    by_cases hlt : j < k
    · have hc := HD.out j hlt
      obtain ⟨c1, c2⟩ := hc
      have hm := hide (show num s (j + 1) = 10 * num s j + (bt s j - 48) by rw [num]; omega)
      go_wp2_with fail
      go_round
      case rel => exact ⟨j + 1, by omega, by go_num, by rw [hm.out]⟩
      case measure => simp [intOf]; omega
    · obtain rfl : j = k := by omega
      go_wp2_with fail
      go_ret
      exact ⟨rfl, rfl⟩

/-- the unit at the beginning (5: none) -/
def headU : List UInt8 → Nat
  | 109 :: 115 :: _ => 4
  | 100 :: _ => 0
  | 104 :: _ => 1
  | 109 :: _ => 2
  | 115 :: _ => 3
  | _ => 5
theorem headU_unitB {j : Nat} (hj : j ≤ 4) (r : List UInt8) (hr : OnDg r) : headU (unitB j ++ r) = j := by
  match j, hj with
  | 0, _ => rfl
  | 1, _ => rfl
  | 2, _ =>
    cases r with
    | nil => rfl
    | cons c r =>
      have hc := hr c rfl
      have : c ≠ 115 := by
        rintro rfl
        have := hc.2
        revert this; decide
      show headU (109 :: c :: r) = 2
      unfold headU
      split
      · rename_i h; injection h with _ h; injection h with h; exact absurd h this
      · rename_i h; injection h with h; exact absurd h (by decide)
      · rename_i h; injection h with h; exact absurd h (by decide)
      · rfl
      · rename_i h; injection h with h; exact absurd h (by decide)
      · rename_i h1 h2 h3 h4 h5; exact absurd rfl (h4 (c :: r))
  | 3, _ => rfl
  | 4, _ => rfl
/-- the digits from i on end at k, or there are 13 of them -/
def Run (s : ByteArray) (i k : Nat) : Prop := i ≤ k ∧ k ≤ s.size ∧ (∀ j, i ≤ j → j < k → 48 ≤ bt s j ∧ bt s j ≤ 57) ∧ k ≤ i + 13 ∧ (k < i + 13 → k < s.size → ¬ (48 ≤ bt s k ∧ bt s k ≤ 57))
/-- what is left from i on are the parts that are missing -/
def Good (s : ByteArray) (i sum : Nat) : Prop := ∀ m, m ≤ 17592186044416 → s.data.toList = spanT m → ∃ qs, s.data.toList.drop i = partsT qs ∧ PartsOk qs ∧ sum + partsN qs = m
theorem good_start (s : ByteArray) : Good s 0 0 := fun m hm h => ⟨parts m, h, parts_ok m hm, by rw [parts_N, Nat.zero_add]⟩
theorem ext_list (s : ByteArray) (i k : Nat) : (s.extract i k).data.toList = (s.data.toList.drop i).take (k - i) := by
  rw [ByteArray.data_extract, Array.toList_extract, List.extract_eq_take_drop]
theorem ext_size {s : ByteArray} {i k : Nat} (h1 : i ≤ k) (h2 : k ≤ s.size) : (s.extract i k).size = k - i := by
  rw [← size_list, ext_list, List.length_take, List.length_drop, size_list]; omega
theorem bt_ext {s : ByteArray} {i k j : Nat} (h1 : i + j < k) (_h2 : k ≤ s.size) : bt (s.extract i k) j = bt s (i + j) := by
  rw [bt_of (ext_list s i k), bt_of (rfl : s.data.toList = s.data.toList), List.getElem?_take_of_lt (by omega), List.getElem?_drop]
theorem Run.digs {s : ByteArray} {i k : Nat} (h : Run s i k) : digs (s.extract i k) (k - i) := fun j hj => by
  rw [bt_ext (by omega) h.2.1]
  exact h.2.2.1 (i + j) (by omega) (by omega)
theorem good_step {s : ByteArray} {i k sum n j : Nat} (hi : i < s.size) (hr : Run s i k) (hn : num (s.extract i k) (k - i) = n) (hj : headU (s.data.toList.drop k) = j) (hg : Good s i sum) :
    (Good s (k + (unitB j).length) (sum + n * unitN j)) ∧ ((j = 5 ∨ 17592186044416 / unitN j < n) → ∀ m, m ≤ 17592186044416 → s.data.toList ≠ spanT m) := by
  have key : ∀ m, m ≤ 17592186044416 → s.data.toList = spanT m → ∃ qs, s.data.toList.drop k = unitB j ++ partsT qs ∧ j ≤ 4 ∧ PartsOk qs ∧ sum + (n * unitN j + partsN qs) = m := by
    intro m hm hs
    obtain ⟨qs, h1, h2, h3⟩ := hg m hm hs
    cases qs with
    | nil =>
      exfalso
      have := congrArg List.length h1
      rw [List.length_drop, size_list] at this
      simp [partsT] at this; omega
    | cons p qs =>
      have hp := h2 p (List.mem_cons_self ..)
      rw [partsT] at h1
      have hd : ∀ t, bt s (i + t) = (((Lib.decDigits p.1 ++ (unitB p.2 ++ partsT qs))[t]?.getD 0).toNat : Int) := fun t => by
        rw [bt_of (rfl : s.data.toList = s.data.toList), ← List.getElem?_drop, h1]
      have hlen : s.size = i + (Lib.nDigits p.1 + ((unitB p.2).length + (partsT qs).length)) := by
        have := congrArg List.length h1
        rw [List.length_drop, size_list, List.length_append, List.length_append, Lib.decDigits_length] at this; omega
      have h6 := nDigits6 hp.1
      have hu := unitB_len p.2
      have hk : k = i + Lib.nDigits p.1 := by
        rcases Nat.lt_trichotomy k (i + Lib.nDigits p.1) with c | c | c
        · exfalso
          have hlt : k - i < (Lib.decDigits p.1).length := by rw [Lib.decDigits_length]; have := hr.1; omega
          refine hr.2.2.2.2 (by omega) (by omega) ?_
          have := hd (k - i)
          rw [show i + (k - i) = k by have := hr.1; omega, List.getElem?_append_left hlt, List.getElem?_eq_getElem hlt] at this
          rw [this]
          exact decDigits_dg p.1 _ (List.getElem_mem hlt)
        · exact c
        · exfalso
          have h7 := hr.2.2.1 (i + Lib.nDigits p.1) (by omega) c
          rw [hd, List.getElem?_append_right (by rw [Lib.decDigits_length]; omega), Lib.decDigits_length, Nat.sub_self, List.getElem?_append_left (by omega), List.getElem?_eq_getElem (by omega)] at h7
          exact unitB_no p.2 _ (List.getElem_mem (by omega)) h7
      have hdk : s.data.toList.drop k = unitB p.2 ++ partsT qs := by
        rw [hk, ← List.drop_drop, h1, ← Lib.decDigits_length, List.drop_left]
      have hjp : j = p.2 := by rw [← hj, hdk, headU_unitB hp.2 _ (partsT_on qs)]
      have hnp : n = p.1 := by
        have e : (s.extract i k).data.toList = Lib.decDigits p.1 ++ [] := by
          rw [ext_list, h1, hk, show i + Lib.nDigits p.1 - i = (Lib.decDigits p.1).length by rw [Lib.decDigits_length]; omega, List.take_left, List.append_nil]
        have := num_dec p.1 _ _ e
        rw [show k - i = Lib.nDigits p.1 by omega] at hn
        omega
      subst hjp hnp
      exact ⟨qs, hdk, hp.2, fun q hq => h2 q (List.mem_cons_of_mem _ hq), by rw [partsN] at h3; exact h3⟩
  constructor
  · intro m hm hs
    obtain ⟨qs, h1, h2, h3, h4⟩ := key m hm hs
    refine ⟨qs, ?_, h3, by omega⟩
    rw [← List.drop_drop, h1, List.drop_left]
  · intro hbad m hm hs
    obtain ⟨qs, h1, h2, h3, h4⟩ := key m hm hs
    rcases hbad with c | c
    · omega
    · have := unitN_pos j
      have h5 : n * unitN j ≤ 17592186044416 := by omega
      have := (Nat.le_div_iff_mul_le this).2 h5
      omega
theorem good_end {s : ByteArray} {sum : Nat} (hg : Good s s.size sum) : ∀ m, m ≤ 17592186044416 → s.data.toList = spanT m → sum = m := by
  intro m hm hs
  obtain ⟨qs, h1, h2, h3⟩ := hg m hm hs
  rw [← size_list, List.drop_length] at h1
  cases qs with
  | nil => exact h3
  | cons p qs =>
    rw [partsT] at h1
    exact absurd (List.append_eq_nil_iff.1 h1.symm).1 (decDigits_ne _)
theorem headU_le (l : List UInt8) : headU l ≤ 5 := by unfold headU; split <;> decide
theorem headU_4 (l : List UInt8) : headU l = 4 ↔ l.take 2 = [109, 115] := by
  constructor
  · intro h
    unfold headU at h
    split at h
    · rfl
    all_goals exact absurd h (by decide)
  · intro h
    match l, h with
    | a :: b :: r, h =>
      simp at h
      obtain ⟨rfl, rfl⟩ := h
      rfl
theorem headU_nil : headU [] = 5 := rfl
/-- the unit that one byte says -/
def byteU (c : Int) : Nat := if c = 100 then 0 else if c = 104 then 1 else if c = 109 then 2 else if c = 115 then 3 else 5
theorem headU_byte {c : UInt8} {r : List UInt8} (h4 : headU (c :: r) ≠ 4) : headU (c :: r) = byteU (c.toNat : Int) := by
  have key : ∀ n : Nat, n < 256 → ((c.toNat : Int) = (n : Int) ↔ c = UInt8.ofNat n) := fun n hn => by
    constructor
    · intro h
      apply UInt8.toNat_inj.1
      rw [UInt8.toNat_ofNat']; omega
    · intro h
      rw [h, UInt8.toNat_ofNat']; omega
  have k1 : (c.toNat : Int) = 100 ↔ c = UInt8.ofNat 100 := key 100 (by decide)
  have k2 : (c.toNat : Int) = 104 ↔ c = UInt8.ofNat 104 := key 104 (by decide)
  have k3 : (c.toNat : Int) = 109 ↔ c = UInt8.ofNat 109 := key 109 (by decide)
  have k4 : (c.toNat : Int) = 115 ↔ c = UInt8.ofNat 115 := key 115 (by decide)
  unfold byteU
  by_cases a1 : c = UInt8.ofNat 100
  · rw [if_pos (k1.2 a1)]; subst a1; rfl
  rw [if_neg fun h => a1 (k1.1 h)]
  by_cases a2 : c = UInt8.ofNat 104
  · rw [if_pos (k2.2 a2)]; subst a2; rfl
  rw [if_neg fun h => a2 (k2.1 h)]
  by_cases a3 : c = UInt8.ofNat 109
  · rw [if_pos (k3.2 a3)]
    subst a3
    unfold headU
    split
    · rename_i h; injection h with _ h; subst h; exact absurd rfl h4
    · rename_i h; injection h with h; exact absurd h (by decide)
    · rename_i h; injection h with h; exact absurd h (by decide)
    · rfl
    · rename_i h; injection h with h; exact absurd h (by decide)
    · rename_i h _; exact absurd rfl (h r)
  rw [if_neg fun h => a3 (k3.1 h)]
  by_cases a4 : c = UInt8.ofNat 115
  · rw [if_pos (k4.2 a4)]; subst a4; rfl
  rw [if_neg fun h => a4 (k4.1 h)]
  unfold headU
  split
  · rename_i h; injection h with h; exact absurd h a3
  · rename_i h; injection h with h; exact absurd h a1
  · rename_i h; injection h with h; exact absurd h a2
  · rename_i h; injection h with h; exact absurd h a3
  · rename_i h; injection h with h; exact absurd h a4
  · rfl
theorem headU_at {s : ByteArray} {k : Nat} (hk : k < s.size) (h4 : headU (s.data.toList.drop k) ≠ 4) : headU (s.data.toList.drop k) = byteU (bt s k) := by
  have hl : k < s.data.toList.length := by rw [size_list]; exact hk
  rw [List.drop_eq_getElem_cons hl] at h4 ⊢
  rw [headU_byte h4, bt_of (rfl : s.data.toList = s.data.toList), List.getElem?_eq_getElem hl]
  rfl
def szU : Nat → Int
  | 0 => 86400000
  | 1 => 3600000
  | 2 => 60000
  | 3 => 1000
  | 4 => 1
  | _ => 0
def ulU : Nat → Int
  | 4 => 2
  | 5 => 0
  | _ => 1
theorem headU_len {l : List UInt8} {j : Nat} (h : headU l = j) (hj : j < 5) : (unitB j).length ≤ l.length := by
  subst h
  unfold headU at hj ⊢
  split
  · simp [unitB]
  · simp [unitB]
  · simp [unitB]
  · simp [unitB]
  · simp [unitB]
  · rename_i h1 h2 h3 h4 h5
    exfalso
    split at hj
    · exact h1 _ rfl
    · exact h2 _ rfl
    · exact h3 _ rfl
    · exact h4 _ rfl
    · exact h5 _ rfl
    · omega
end Go.Proofs.YtodfajjkngjgdaaDoor
