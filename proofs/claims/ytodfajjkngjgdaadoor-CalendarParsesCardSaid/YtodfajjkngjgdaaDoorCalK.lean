/- The parsing of numbers with a fixed number of digits. No condition. -/
import Derived.Test.YtodfajjkngjgdaaDoorCalC
namespace Go.Proofs.YtodfajjkngjgdaaDoor
open Go Go.RowKit Go.PlainAid

/-- the number that the first k bytes say -/
def num (s : ByteArray) : Nat → Int
  | 0 => 0
  | k + 1 => num s k * 10 + (bt s k - 48)
def digs (s : ByteArray) (k : Nat) : Prop := ∀ i, i < k → 48 ≤ bt s i ∧ bt s i ≤ 57
theorem digs_more {s : ByteArray} {k : Nat} (h : digs s k) (a : 48 ≤ bt s k) (b : bt s k ≤ 57) : digs s (k + 1) := by
  intro i hi
  by_cases e : i = k
  · subst e; exact ⟨a, b⟩
  · exact h i (by omega)
theorem num_bd {s : ByteArray} {k : Nat} (hk : k ≤ 4) (h : digs s k) : 0 ≤ num s k ∧ num s k ≤ 9999 := by
  have h0 := h 0
  have h1 := h 1
  have h2 := h 2
  have h3 := h 3
  match k, hk with
  | 0, _ => simp [num]
  | 1, _ => simp only [num]; have := h0 (by omega); omega
  | 2, _ => simp only [num]; have := h0 (by omega); have := h1 (by omega); omega
  | 3, _ => simp only [num]; have := h0 (by omega); have := h1 (by omega); have := h2 (by omega); omega
  | 4, _ => simp only [num]; have := h0 (by omega); have := h1 (by omega); have := h2 (by omega); have := h3 (by omega); omega

open Classical in
/-- the number that cutNumber returns -/
noncomputable def cN (s : ByteArray) (size : Nat) : Int := if size ≤ s.size ∧ digs s size then num s size else 0
open Classical in
/-- the rest that cutNumber returns -/
noncomputable def cR (s : ByteArray) (size : Nat) (p : ByteArray) : ByteArray :=
  if size ≤ s.size ∧ digs s size then ⟨(Lib.trimPrefix (List.take (s.size - size) (List.drop size s.data.toList)) p.data.toList).toArray⟩ else ⟨#[]⟩
open Classical in
/-- whether there is such a number -/
noncomputable def cB (s : ByteArray) (size : Nat) (p : ByteArray) : Bool :=
  if size ≤ s.size ∧ digs s size then Lib.hasPrefix (List.take (s.size - size) (List.drop size s.data.toList)) p.data.toList else false

/-- what cutNumber returns -/
noncomputable def cutV (s : ByteArray) (size : Nat) (p : ByteArray) : Value := .tuple #[.int .i64 (cN s size), .string (cR s size p), .bool (cB s size p)]

set_option maxHeartbeats 2000000 in
theorem cutNumber_any (s : ByteArray) (size : Nat) (p : ByteArray) (w : World) (h4 : size ≤ 4) :
    Calls Tryd.prog 66 #[.string s, .int .i64 size, .string p] w fun e w' => e = .returned (cutV s size p) ∧ w' = w := by
  by_cases hs : size ≤ s.size
  · have hb := get_bt s
    have hb0 := bt_nonneg s
    have hb1 := bt_le s
    go_enter Tryd.func66, Tryd.ntmps66
    go_wp2_with fail
    go_loop [6, 15] (fun r i => ∃ k : Nat, k ≤ size ∧ i = .int .i64 k ∧ r = .int .i64 (num s k) ∧ Hid (digs s k)) (fun _ i => size - (intOf i).toNat)
    case atStart => exact ⟨0, by omega, rfl, rfl, by intro i hi; omega⟩
    case round =>
      obtain ⟨k, hk, rfl, rfl, hd⟩ := hrel
      have hn := num_bd (by omega) hd.out
      by_cases hlt : k < size
      · by_cases c1 : 48 ≤ bt s k
        · by_cases c2 : bt s k ≤ 57
          · go_wp2_with (go_at_call 69; go_in)
            go_round
            case rel => exact ⟨k + 1, by omega, by go_num, by simp only [num], digs_more hd.out c1 c2⟩
            case measure => simp [intOf]; omega
          · have hno : ¬ (size ≤ s.size ∧ digs s size) := fun h => c2 (h.2 k hlt).2
            go_wp2_with (go_at_call 69; go_in)
            go_ret3
            exact ⟨by rw [cutV, cN, cR, cB, if_neg hno, if_neg hno, if_neg hno]; rfl, rfl⟩
        · have hno : ¬ (size ≤ s.size ∧ digs s size) := fun h => c1 (h.2 k hlt).1
          go_wp2_with (go_at_call 69; go_in)
          go_ret3
          exact ⟨by rw [cutV, cN, cR, cB, if_neg hno, if_neg hno, if_neg hno]; rfl, rfl⟩
      · obtain rfl : k = size := by omega
        go_wp2_with fail
        refine (Tryd.strings_CutPrefix _ p _).mono ?_
        rintro e w' ⟨rfl, rfl⟩
        go_wp2_with fail
        go_ret3
        exact ⟨by rw [cutV, cN, cR, cB, if_pos ⟨hs, hd.out⟩, if_pos ⟨hs, hd.out⟩, if_pos ⟨hs, hd.out⟩]; rfl, rfl⟩
  · have hno : ¬ (size ≤ s.size ∧ digs s size) := fun h => hs h.1
    go_enter Tryd.func66, Tryd.ntmps66
    go_wp2_with fail
    go_ret3
    exact ⟨by rw [cutV, cN, cR, cB, if_neg hno, if_neg hno, if_neg hno]; rfl, rfl⟩

def dash : ByteArray := ⟨#[45]⟩
def none_ : ByteArray := ⟨#[]⟩
/-- the three rests of a date's text -/
noncomputable def d1 (s : ByteArray) : ByteArray := cR s 4 ⟨#[45]⟩
noncomputable def d2 (s : ByteArray) : ByteArray := cR (d1 s) 2 ⟨#[45]⟩
noncomputable def d3 (s : ByteArray) : ByteArray := cR (d2 s) 2 ⟨#[]⟩
noncomputable def dOk (s : ByteArray) : Bool := cB s 4 ⟨#[45]⟩ && cB (d1 s) 2 ⟨#[45]⟩ && cB (d2 s) 2 ⟨#[]⟩

set_option maxHeartbeats 2000000 in
theorem cutDate_any (s : ByteArray) (w : World) :
    Calls Tryd.prog 52 #[.string s] w fun e w' => e = .returned (.tuple #[.int .i64 (cN s 4), .int .i64 (cN (d1 s) 2), .int .i64 (cN (d2 s) 2), .string (d3 s), .bool (dOk s)]) ∧ w' = w := by
  go_enter Tryd.func52, Tryd.ntmps52
  go_wp2_with fail
  refine (cutNumber_any s 4 ⟨#[45]⟩ w (by omega)).mono ?_
  rintro e w' ⟨rfl, rfl⟩
  unfold cutV
  rw [show cR s 4 ⟨#[45]⟩ = d1 s from rfl]
  go_wp2_with fail
  refine (cutNumber_any (d1 s) 2 ⟨#[45]⟩ _ (by omega)).mono ?_
  rintro e w' ⟨rfl, rfl⟩
  unfold cutV
  rw [show cR (d1 s) 2 ⟨#[45]⟩ = d2 s from rfl]
  go_wp2_with fail
  refine (cutNumber_any (d2 s) 2 ⟨#[]⟩ _ (by omega)).mono ?_
  rintro e w' ⟨rfl, rfl⟩
  unfold cutV
  rw [show cR (d2 s) 2 ⟨#[]⟩ = d3 s from rfl]
  rcases hA : cB s 4 ⟨#[45]⟩ <;> rcases hB : cB (d1 s) 2 ⟨#[45]⟩
  all_goals
    have hO : dOk s = (cB s 4 ⟨#[45]⟩ && cB (d1 s) 2 ⟨#[45]⟩ && cB (d2 s) 2 ⟨#[]⟩) := rfl
    rw [hA, hB] at hO
    simp only [Bool.false_and, Bool.and_false, Bool.true_and] at hO
    have HO := hide hO
    clear hO hA hB
    go_wp2_with fail
    go_returns
    exact ⟨by rw [HO.out]; try rfl, rfl⟩


open Classical in
/-- what Parse returns -/
noncomputable def parseV (s : ByteArray) : Value :=
  if dOk s = true ∧ (d3 s).size = 0 then
    (if isDateB (cN s 4) (cN (d1 s) 2) (cN (d2 s) 2) then .tuple #[.int .i64 (daysN (cN s 4) (cN (d1 s) 2) (cN (d2 s) 2)), .int .i64 0] else .tuple #[.int .i64 0, .int .i64 17])
  else .tuple #[.int .i64 0, .int .i64 13]

set_option maxHeartbeats 2000000 in
theorem parse_ok (s : ByteArray) (w : World) (hL : Lens w) (h1 : dOk s = true) (h2 : d3 s = ⟨#[]⟩) (h3 : isDateB (cN s 4) (cN (d1 s) 2) (cN (d2 s) 2)) :
    Calls Tryd.prog 30 #[.string s] w fun e w' => e = .returned (.tuple #[.int .i64 (daysN (cN s 4) (cN (d1 s) 2) (cN (d2 s) 2)), .int .i64 0]) ∧ w' = w := by
  go_enter Tryd.func30, Tryd.ntmps30
  go_wp2_with fail
  refine (cutDate_any s w).mono ?_
  rintro e w' ⟨rfl, rfl⟩
  rw [h1, h2]
  go_wp2_with fail
  refine (days_ok _ _ _ _ hL h3).mono ?_
  rintro e w' ⟨rfl, rfl⟩
  go_wp2_with fail
  go_ret2
  exact ⟨rfl, rfl⟩
end Go.Proofs.YtodfajjkngjgdaaDoor
