/- Lists of widths that come in, sums of widths, the texts between them. No condition. -/
import Derived.Test.YtcifakhpggoebaaGreatDoorProg
import Derived.WalkKit
import Derived.WalkLawsBesides
import Derived.WalkSpells
import Derived.Handy
import Derived.Outline
import Derived.LoopTactic
import Derived.PlainAid
import Derived.Below
import Derived.OwnWalk
import Derived.Laws.OwnMore
import Derived.Deep.QuietTactic
import Derived.BigQuiet
import Derived.Deep.RegionHeld3
import Derived.Deep.AppendLies
import Derived.Deep.RegionWith
import Derived.Deep.Slices
import Derived.KernelRfl
namespace Go.Proofs.YtcifakhpggoebaaGreatDoor.Fw
open Go Go.RowKit Go.PlainAid
theorem hide {p : Prop} (h : p) : Hid p := h
abbrev E := Int
def dg (l : List Int) (i : Nat) : Int := l.getD i 0
/-- a slice that reads as the numbers l, wherever it lies -/
def Row (w : World) (A : Option Addr) (l : List Int) : Prop :=
  0 < l.length → ∃ g off, A = some ⟨g, off, none⟩ ∧ g < w.heap.size ∧ ∀ i, i < l.length → w.cell? ⟨g, off + i, none⟩ = some (.int .i64 (dg l i))
theorem Row.below {w w' : World} {A : Option Addr} {l : List Int} (h : Row w A l) (hb : Below w.heap.size w w') : Row w' A l := fun hl => by
  obtain ⟨g, off, e, hg, hc⟩ := h hl
  exact ⟨g, off, e, Nat.lt_of_lt_of_le hg hb.size, fun i hi => (hb.cell (p := ⟨g, off + i, none⟩) hg).trans (hc i hi)⟩
theorem Row.take {w : World} {A : Option Addr} {l : List Int} (h : Row w A l) (k : Nat) : Row w A (l.take k) := fun hl => by
  have hl0 : 0 < l.length := by simp only [List.length_take] at hl; omega
  obtain ⟨g, off, e, hg, hc⟩ := h hl0
  refine ⟨g, off, e, hg, fun i hi => ?_⟩
  have hi' : i < k ∧ i < l.length := by simp only [List.length_take] at hi; omega
  have e : dg (l.take k) i = dg l i := by simp [dg, List.getD, hi'.1]
  rw [e]; exact hc i hi'.2
def isOk (x : Int) : Prop := 1 ≤ x ∧ x ≤ 4096
instance (x : Int) : Decidable (isOk x) := by unfold isOk; infer_instance
def allOk (l : List Int) : Prop := ∀ i, i < l.length → isOk (dg l i)
instance (l : List Int) : Decidable (allOk l) := by unfold allOk; infer_instance
/-- the sum of the first i widths -/
def S (l : List Int) (i : Nat) : Nat := ((l.take i).map Int.toNat).sum
theorem S_zero (l : List Int) : S l 0 = 0 := by simp [S]
theorem S_succ (l : List Int) (i : Nat) (h : i < l.length) : S l (i + 1) = S l i + (dg l i).toNat := by
  have e : dg l i = l[i] := by unfold dg; rw [List.getD_eq_getElem?_getD, List.getElem?_eq_getElem h]; rfl
  unfold S
  rw [List.take_succ_eq_append_getElem h, List.map_append, List.sum_append, e]
  simp only [List.map_cons, List.map_nil, List.sum_cons, List.sum_nil, Nat.add_zero]
theorem S_le (l : List Int) (h : allOk l) : ∀ i, i ≤ l.length → S l i ≤ 4096 * i
  | 0, _ => by simp [S]
  | i + 1, hi => by
    have := S_le l h i (by omega)
    rw [S_succ l i (by omega)]
    have := h i (by omega)
    unfold isOk at this
    omega
theorem S_mono (l : List Int) (i : Nat) : S l i ≤ S l l.length := by
  have : l.map Int.toNat = (l.take i).map Int.toNat ++ (l.drop i).map Int.toNat := by rw [← List.map_append, List.take_append_drop]
  unfold S
  rw [List.take_length, this, List.sum_append]
  omega
def textI (s : ByteArray) (l : List Int) (i : Nat) : ByteArray := s.extract (S l i) (S l (i + 1))
/-- the first k texts -/
def texts (s : ByteArray) (l : List Int) (k : Nat) : List Value := (List.range k).map fun i => .string (textI s l i)
theorem texts_succ (s : ByteArray) (l : List Int) (k : Nat) : texts s l (k + 1) = texts s l k ++ [.string (textI s l k)] := by simp [texts, List.range_succ]
theorem texts_length (s : ByteArray) (l : List Int) (k : Nat) : (texts s l k).length = k := by simp [texts]
theorem texts_at (s : ByteArray) (l : List Int) (k i : Nat) (h : i < k) : (texts s l k)[i]? = some (.string (textI s l i)) := by simp [texts, h]
def code (s : ByteArray) (l : List Int) : Int := if 64 < l.length ∨ ¬ allOk l then 2 else if s.size < S l l.length then 4 else if S l l.length < s.size then 5 else 0
/-- what both come to -/
def Post (s : ByteArray) (l : List Int) (w : World) (e : Ending) (w' : World) : Prop := ∃ v c, e = .returned (.tuple #[v, .int .i64 c]) ∧ c = code s l ∧ (c ≠ 0 → v = .slice none 0 0) ∧ (c = 0 → w'.ownsRow w.heap.size 9 1 v l.length (texts s l l.length)) ∧ Below w.heap.size w w'
theorem code_wide {s : ByteArray} {l : List Int} (h : 64 < l.length ∨ ¬ allOk l) : code s l = 2 := by unfold code; rw [if_pos h]
theorem code_short {s : ByteArray} {l : List Int} (h : l.length ≤ 64) (g : allOk l) (k : s.size < S l l.length) : code s l = 4 := by unfold code; rw [if_neg (by simp [g]; omega), if_pos k]
theorem code_long {s : ByteArray} {l : List Int} (h : l.length ≤ 64) (g : allOk l) (k : S l l.length < s.size) : code s l = 5 := by unfold code; rw [if_neg (by simp [g]; omega), if_neg (by omega), if_pos k]
theorem code_ok {s : ByteArray} {l : List Int} (h : l.length ≤ 64) (g : allOk l) (k : s.size = S l l.length) : code s l = 0 := by unfold code; rw [if_neg (by simp [g]; omega), if_neg (by omega), if_neg (by omega)]
end Go.Proofs.YtcifakhpggoebaaGreatDoor.Fw
