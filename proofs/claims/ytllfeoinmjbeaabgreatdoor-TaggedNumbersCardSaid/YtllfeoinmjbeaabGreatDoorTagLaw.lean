/- The law TaggedNumbers: its walk, by the reckoner, which knows what Put, Take and the like come to. Condition: the listed tables. -/
import Derived.Test.YtllfeoinmjbeaabGreatDoorSym
import Derived.Test.YtllfeoinmjbeaabGreatDoorTagC
import Derived.Test.YtllfeoinmjbeaabGreatDoorTagZig
namespace Go.Proofs.YtllfeoinmjbeaabGreatDoor
open Go Go.RowKit Go.PlainAid TagN

/-- the names: 0: the number, 1: the integer for which it stands; texts: 0: what stands ahead, 1: the bytes of the number -/
noncomputable abbrev envT (n : Int) (s : ByteArray) : Ev.Env := ⟨fun k => match k with | 0 => n | _ => unz n, fun k => match k with | 0 => s | _ => putB n.toNat⟩
abbrev zPos : Ev.IE := .op .mul .i64 (.lit 2) (.v 0)
abbrev zNeg : Ev.IE := .op .sub .i64 (.op .mul .i64 (.lit (-2)) (.v 0)) (.lit 1)
abbrev CallT := FuncId × List Ev.SV × Ev.SV
abbrev cKnown : CallT := (4, [], .lit (.bool true))
abbrev cPut : CallT := (5, [.sint .i64 (.v 0)], .tup [.sstr (.v 1), .lit (.int .i64 0)])
abbrev cRef : CallT := (9, [.sint .i64 (.v 0)], .sstr (.v 1))
abbrev cTake : CallT := (8, [.sstr (.cat (.cat (.v 0) (.v 1)) (.lit ⟨#[128]⟩)), .sint .i64 (.len (.v 0))], .tup [.sint .i64 (.v 0), .sint .i64 (.op .add .i64 (.len (.v 0)) (.len (.v 1))), .lit (.int .i64 0)])
abbrev cUnz : CallT := (16, [.sint .i64 (.v 0)], .sint .i64 (.v 1))
abbrev cRefUnz : CallT := (10, [.sint .i64 (.v 0)], .sint .i64 (.v 1))
abbrev cZPos : CallT := (16, [.sint .i64 zPos], .sint .i64 (.v 0))
abbrev cZNeg : CallT := (16, [.sint .i64 zNeg], .sint .i64 (.v 0))

section
variable {n : Int} {s : ByteArray}
abbrev OK (n : Int) (s : ByteArray) (c : CallT) : Prop := @Ev.CallOK (envT n s) Tryz.prog (Ev.oldL tabs) c ∧ (@Ev.concs (envT n s) (fun _ => none) c.2.1).isSome = true ∧ (@Ev.conc (envT n s) (fun _ => none) c.2.2).isSome = true
theorem ok_of {c : CallT} {us : List Value} {r : Value} (hu : @Ev.concs (envT n s) (fun _ => none) c.2.1 = some us) (hr : @Ev.conc (envT n s) (fun _ => none) c.2.2 = some r)
    (h : ∀ w, Laid w → Calls Tryz.prog c.1 us.toArray w fun e w' => e = .returned r ∧ Below w.heap.size w w') : OK n s c := by
  refine ⟨fun w us' r' hold hu' hr' => ?_, by rw [hu]; rfl, by rw [hr]; rfl⟩
  rw [hu] at hu'
  rw [hr] at hr'
  cases hu'
  cases hr'
  exact h w (laid_of_old hold)
theorem ok_known : OK n s cKnown := ok_of (us := []) (r := .bool true) rfl rfl fun w hL => known_ok w hL
theorem ok_put (h0 : 0 ≤ n) (h1 : n ≤ 4611686018427387903) : OK n s cPut := by
  refine ok_of (us := [.int .i64 n]) (r := .tuple #[.string (putB n.toNat), .int .i64 0]) rfl rfl fun w _ => ?_
  have := put_any n.toNat ⟨by omega⟩ w
  rw [Int.toNat_of_nonneg h0] at this
  exact this
theorem ok_ref (h0 : 0 ≤ n) (h1 : n ≤ 4611686018427387903) : OK n s cRef := by
  refine ok_of (us := [.int .i64 n]) (r := .string (putB n.toNat)) rfl rfl fun w _ => ?_
  have := refPut_any n.toNat ⟨by omega⟩ w
  rw [Int.toNat_of_nonneg h0] at this
  exact this
theorem ok_unz (h0 : 0 ≤ n) (h1 : n ≤ 4611686018427387903) : OK n s cUnz :=
  ok_of (us := [.int .i64 n]) (r := .int .i64 (unz n)) rfl rfl fun w _ => (unzig_any n ⟨h0, h1⟩ w).mono fun e w' ⟨h, h'⟩ => ⟨h, by rw [h']; exact Below.refl _ _⟩
theorem ok_refUnz (h0 : 0 ≤ n) (h1 : n ≤ 4611686018427387903) : OK n s cRefUnz :=
  ok_of (us := [.int .i64 n]) (r := .int .i64 (unz n)) rfl rfl fun w _ => (refUnzig_any n ⟨h0, h1⟩ w).mono fun e w' ⟨h, h'⟩ => ⟨h, by rw [h']; exact Below.refl _ _⟩
theorem den_pos (h0 : 0 ≤ n) (h1 : n ≤ 2305843009213693951) : @Ev.IE.den (envT n s) zPos = 2 * n := by
  show IntKind.i64.wrap (2 * n) = _
  exact IntWalk.i64_in _ (by omega)
theorem den_neg (h0 : -2305843009213693952 ≤ n) (h1 : n ≤ -1) : @Ev.IE.den (envT n s) zNeg = -2 * n - 1 := by
  show IntKind.i64.wrap (IntKind.i64.wrap (-2 * n) - 1) = _
  rw [IntWalk.i64_in (-2 * n) (by omega), IntWalk.i64_in _ (by omega)]
theorem ok_zpos (h0 : 0 ≤ n) (h1 : n ≤ 2305843009213693951) : OK n s cZPos := by
  refine ok_of (us := [.int .i64 (2 * n)]) (r := .int .i64 n) ?_ rfl fun w _ => ?_
  · simp only [Ev.concs, Ev.conc, den_pos h0 h1]
  · have := unzig_any (2 * n) ⟨by omega, by omega⟩ w
    rw [unz_pos] at this
    exact this.mono fun e w' ⟨h, h'⟩ => ⟨h, by rw [h']; exact Below.refl _ _⟩
theorem ok_zneg (h0 : -2305843009213693952 ≤ n) (h1 : n ≤ -1) : OK n s cZNeg := by
  refine ok_of (us := [.int .i64 (-2 * n - 1)]) (r := .int .i64 n) ?_ rfl fun w _ => ?_
  · simp only [Ev.concs, Ev.conc, den_neg h0 h1]
  · have := unzig_any (-2 * n - 1) ⟨by omega, by omega⟩ w
    rw [unz_neg] at this
    exact this.mono fun e w' ⟨h, h'⟩ => ⟨h, by rw [h']; exact Below.refl _ _⟩
theorem bt_nums {l : List Int} (h : ∀ b ∈ l, 0 ≤ b ∧ b ≤ 255) {i : Nat} (hi : i < l.length) : bt (strOfNums l) i = l.getD i 0 := by
  have hz : i < (strOfNums l).size := by rw [nums_size]; exact hi
  unfold bt
  rw [dif_pos hz]
  have e : (strOfNums l)[i] = UInt8.ofNat (l[i]).toNat := by
    show (strOfNums l).data[i] = _
    rw [← Array.getElem_toList]
    simp only [nums_list, List.getElem_map]
  have hm := h l[i] (List.getElem_mem hi)
  rw [e, List.getD_eq_getElem?_getD, List.getElem?_eq_getElem hi, Option.getD_some]
  have : (UInt8.ofNat (l[i]).toNat).toNat = (l[i]).toNat % 256 := rfl
  rw [this]
  omega
theorem has_put (n : Nat) (s t : ByteArray) : Has (s ++ putB n ++ t) s.size (putL n) := by
  intro i hi
  have hs : (putB n).size = (putL n).length := nums_size _
  have h1 : s.size + i < (s ++ putB n).size := by rw [ByteArray.size_append]; omega
  have h2 : s.size + i < (s ++ putB n ++ t).size := by rw [ByteArray.size_append]; omega
  refine ⟨h2, ?_⟩
  rw [← bt_nums (putL_bytes n) hi]
  unfold bt
  rw [dif_pos h2, dif_pos (by rw [nums_size]; exact hi)]
  rw [ByteArray.getElem_append_left h1, ByteArray.getElem_append_right (by omega)]
  simp only [Nat.add_sub_cancel_left]
  rfl
theorem ok_take (h0 : 0 ≤ n) (h1 : n ≤ 4611686018427387903) (hs : s.size ≤ 50) : OK n s cTake := by
  obtain ⟨m, rfl⟩ : ∃ m : Nat, n = m := ⟨n.toNat, by omega⟩
  have hf : Fit m := ⟨by omega⟩
  have hz := putB_size hf
  have hl : (putB m).size = (putL m).length := nums_size _
  have ht := take_put (s := s ++ putB m ++ ⟨#[128]⟩) (f := s.size) (n := m) (by omega) (has_put m s _)
  refine ok_of (us := [.string (s ++ putB m ++ ⟨#[128]⟩), .int .i64 (s.size : Nat)]) (r := .tuple #[.int .i64 m, .int .i64 ((s.size + (putL m).length : Nat) : Int), .int .i64 0]) rfl ?_ fun w _ => ?_
  · have e : IntKind.i64.wrap ((s.size : Nat) + ((putB m).size : Nat) : Int) = ((s.size + (putL m).length : Nat) : Int) := by rw [IntWalk.i64_in _ (by omega), hl]; omega
    simp only [Ev.conc, Ev.concs, Ev.IE.den, Ev.SE.den, Ev.iop, Option.map_some]
    show some (Value.tuple #[_, .int .i64 (IntKind.i64.wrap ((s.size : Nat) + ((putB m).size : Nat) : Int)), _]) = _
    rw [e]
    rfl
  · refine (TagB.take_any _ s.size _ w (by
      have e1 : (s ++ putB m ++ (⟨#[128]⟩ : ByteArray)).size = s.size + (putB m).size + 1 := by rw [ByteArray.size_append, ByteArray.size_append]; rfl
      omega) ht.1).mono fun e w' ⟨h, h'⟩ => ⟨?_, h'⟩
    rw [h, ht.2]
end
end Go.Proofs.YtllfeoinmjbeaabGreatDoor
