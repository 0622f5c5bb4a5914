/- The program's read and Parse, for every text. Conditions: the tables hold what the program's text lays; the variable MaxLen of internal/bytealg holds a number. -/
import Derived.Test.YtgppimdakafniaaDoorDecTextB
import Derived.Test.YtgppimdakafniaaDoorShelfCut
import Derived.Test.YtgppimdakafniaaDoorDecShape
namespace Go.Proofs.YtgppimdakafniaaDoor
open Go Go.RowKit Go.PlainAid

/-- the value of the first k bytes -/
def numB (d : ByteArray) (k : Nat) : Int := vals 0 (d.data.toList.take k)
theorem bt_get (d : ByteArray) (k : Nat) (h : k < d.size) : d.data.toList.take (k + 1) = d.data.toList.take k ++ [d[k]] := by
  have : k < d.data.toList.length := h
  rw [List.take_succ_eq_append_getElem this]; rfl
theorem numB_succ (d : ByteArray) (k : Nat) (h : k < d.size) : numB d (k + 1) = numB d k * 10 + (bt d k - 48) := by
  unfold numB
  rw [bt_get d k h, vals_snoc]
  unfold bt
  rw [dif_pos h]
theorem okd_succ (d : ByteArray) (k : Nat) (h : k < d.size) (ho : okd (d.data.toList.take k)) (a : 48 ≤ bt d k) (b : bt d k ≤ 57) : okd (d.data.toList.take (k + 1)) := by
  rw [bt_get d k h]
  refine okd_append ho fun c hc => ?_
  rw [List.mem_singleton.1 hc]
  unfold bt at a b
  rw [dif_pos h] at a b
  omega
theorem okd_not (d : ByteArray) (k : Nat) (h : k < d.size) (a : ¬ (48 ≤ bt d k ∧ bt d k ≤ 57)) : ¬ okd d.data.toList := fun ho => a (by
  have hk : k < d.data.toList.length := h
  have := ho d[k] (show d.data.toList[k] ∈ _ from List.getElem_mem hk)
  unfold bt
  rw [dif_pos h]
  omega)
theorem pow17 (k : Nat) (h : k ≤ 17) : (10 : Int) ^ k ≤ 100000000000000000 := by
  have h1 : (10 : Nat) ^ k ≤ 10 ^ 17 := Nat.pow_le_pow_right (by decide) h
  have e : (10 : Nat) ^ 17 = 100000000000000000 := by decide
  have : ((10 ^ k : Nat) : Int) ≤ 100000000000000000 := by omega
  simpa using this
theorem numB_bound (d : ByteArray) (k : Nat) (hk : k ≤ 17) (h : okd (d.data.toList.take k)) : 0 ≤ numB d k ∧ numB d k < 100000000000000000 := by
  obtain ⟨h1, h2⟩ := vals_bound _ 0 h (Int.le_refl _)
  refine ⟨h1, Int.lt_of_lt_of_le h2 ?_⟩
  rw [Int.zero_add, Int.one_mul]
  exact pow17 _ (by rw [List.length_take]; omega)

/-- what read comes to -/
def ReadPost (L : List UInt8) (w : World) (e : Ending) (w' : World) : Prop :=
  ((okd (rdDig L) ∧ e = .returned (.tuple #[(.agg #[.int .i64 (rdInt L), .int .i64 (rdScale L)]), .bool true])) ∨ (¬ okd (rdDig L) ∧ e = .returned (.tuple #[(.agg #[.int .i64 (0), .int .i64 (0)]), .bool false]))) ∧ Below w.heap.size w w'
theorem below_drewB {B : Nat} {a w : World} (h : Below B a w) : Below B a w.drew := ⟨h.os, h.tape, h.output, h.size, h.block⟩
theorem Holds.drewN {w : World} {g : Nat} {T : TypeId} {cs : Array Value} (h : Holds w g T cs) (n : Nat) : Holds (w.drewN n) g T cs := h
theorem bytes_eq {a b : ByteArray} (h : a.data.toList = b.data.toList) : a = b := by
  obtain ⟨x⟩ := a
  obtain ⟨y⟩ := b
  have : x = y := Array.toList_inj.1 h
  rw [this]

set_option maxHeartbeats 16000000 in
theorem read_any (s : ByteArray) (w : World) (hM : MaxLen w) (hs : s.size ≤ 17) :
    Calls Tryd.prog 60 #[.string s] w (ReadPost s.data.toList w) := by
  obtain ⟨mm, hm⟩ := hM
  have hm' : (w.alloc (.cells #[.int .i64 0, .int .i64 0] 23)).cell? ⟨4, 0, none⟩ = some (.int .i64 mm) := (World.cell?_alloc_lt _ _ _ (World.block_lt_of_cell? w _ hm)).trans hm
  obtain ⟨R, hR⟩ : ∃ R : ByteArray, R = ⟨(Lib.trimPrefix s.data.toList [45]).toArray⟩ := ⟨_, rfl⟩
  obtain ⟨neg, hneg⟩ : ∃ b, b = Lib.hasPrefix s.data.toList [45] := ⟨_, rfl⟩
  obtain ⟨P, hP⟩ : ∃ P : ByteArray, P = ⟨(Lib.cut R.data.toList [46]).1.toArray⟩ := ⟨_, rfl⟩
  obtain ⟨F, hF⟩ : ∃ F : ByteArray, F = ⟨(Lib.cut R.data.toList [46]).2.1.toArray⟩ := ⟨_, rfl⟩
  obtain ⟨fd, hfd⟩ : ∃ b, b = (Lib.cut R.data.toList [46]).2.2 := ⟨_, rfl⟩
  have hRl : R.data.toList = Lib.trimPrefix s.data.toList [45] := by rw [hR]
  have hRs : R.size ≤ 17 := by
    have h1 := trim_len s.data.toList [45]
    rw [← hRl] at h1
    exact Nat.le_trans h1 hs
  have hPF : P.data.toList ++ F.data.toList = rdDig s.data.toList := by rw [hP, hF]; unfold rdDig rdCut; rw [hRl]
  have hFl : F.data.toList.length = rdScale s.data.toList := by rw [hF]; unfold rdScale rdCut; rw [hRl]
  have C1 : Hid (∀ W, Calls Tryd.prog 72 #[.string s, .string ⟨#[45]⟩] W fun e w' => e = .returned (.tuple #[.string R, .bool neg]) ∧ w' = W) := hide fun W => by
    have := Tryd.strings_CutPrefix s ⟨#[45]⟩ W
    rw [hR, hneg]; exact this
  have C2 : Hid (∀ W, W.cell? ⟨4, 0, none⟩ = some (.int .i64 mm) → Calls Tryd.prog 73 #[.string R, .string ⟨#[46]⟩] W fun e w' => e = .returned (.tuple #[.string P, .string F, .bool fd]) ∧ ∃ n, w' = W.drewN n) := hide fun W hW => by
    have := Tryd.strings_Cut R ⟨#[46]⟩ mm W (by omega) hW
    rw [hP, hF, hfd]; exact this
  obtain ⟨D, hD⟩ : ∃ D : ByteArray, D = P ++ F := ⟨_, rfl⟩
  have hDl : D.data.toList = rdDig s.data.toList := by rw [hD, ← hPF]; simp
  have hDs : D.size ≤ 17 := by
    have h1 := rd_len s.data.toList
    rw [← hDl] at h1
    exact Nat.le_trans h1 hs
  have DL := hide hDl
  have FL := hide hFl
  have HM := hide hm'
  have HD := hide hD
  have hni : rdInt s.data.toList = if neg then -numB D D.size else numB D D.size := by
    have h1 : D.data.toList.take D.size = D.data.toList := List.take_of_length_le (Nat.le_refl _)
    unfold rdInt rdNeg numB
    rw [h1, hDl, hneg]
  have HN := hide hni
  have hFs : F.size ≤ 17 := by
    have := congrArg List.length hPF
    rw [List.length_append] at this
    have h1 := rd_len s.data.toList
    have : F.data.toList.length ≤ 17 := by
      have hz : s.data.toList.length = s.size := rfl
      omega
    exact this
  have hPs : P.size ≤ 17 := by
    have := congrArg List.length hPF
    rw [List.length_append] at this
    have h1 := rd_len s.data.toList
    have : P.data.toList.length ≤ 17 := by
      have hz : s.data.toList.length = s.size := rfl
      omega
    exact this
  clear hm hm' hR hneg hP hF hfd hRl hRs hPF hFl hD hDl hni
  go_enter Tryd.func60, Tryd.ntmps60
  go_wp2_with fail
  refine (C1.out _).mono ?_
  rintro e w' ⟨rfl, rfl⟩
  go_wp2_with fail
  refine (C2.out _ HM.out).mono ?_
  rintro e w' ⟨rfl, q, rfl⟩
  clear C1 C2 HM
  go_wp2_with fail
  rw [← HD.out]
  have hPFs : D.size = P.size + F.size := by rw [HD.out]; exact ByteArray.size_append
  have gb := get_bt D
  have gb0 := bt_nonneg D
  have gb1 := bt_le D
  go_loopw [27] (fun i wr => ∃ k : Nat, k ≤ D.size ∧ i = .int .i64 k ∧ Hid (okd (D.data.toList.take k)) ∧ Holds wr w.heap.size 23 #[.int .i64 (numB D k), .int .i64 0] ∧ Below w.heap.size w wr) (fun i _ => D.size - (intOf i).toNat)
  case atStart => exact ⟨0, Nat.zero_le _, rfl, okd_nil, (show Holds (w.alloc _) _ _ _ from heap_alloc_new w _).drewN q, below_drewN (below1 _ _) q⟩
  case round =>
    obtain ⟨k, hk, rfl, hO, hH, hB⟩ := hrel
    have c0 : wr.cell? ⟨w.heap.size, 0, none⟩ = some (.int .i64 (numB D k)) := (hH.cell 0).trans rfl
    have c1 : wr.cell? ⟨w.heap.size, 1, none⟩ = some (.int .i64 0) := (hH.cell 1).trans rfl
    have f0 := hH.free 0
    have f1 := hH.free 1
    have hsz := hH.lt
    by_cases hlt : k < D.size
    · have q0 : decide ((k : Int) < (P.size : Int) + (F.size : Int)) = true := by simp; omega
      have KB := numB_bound D k (by omega) hO.out
      obtain ⟨v, hv⟩ : ∃ v, v = numB D k := ⟨_, rfl⟩
      rw [← hv] at c0 KB
      have HV := hide hv
      have HH := hide hH
      clear hv hH
      by_cases lo : bt D k < 48
      · have hno := hide (okd_not D k hlt (by omega))
        go_wp2_with fail
        exact bodyPost_ret (v := .tuple #[(.agg #[.int .i64 (0), .int .i64 (0)]), .bool false]) (by simp [results, Tryd.results60, go_sem, c0, c1]) rfl ⟨.inr ⟨by rw [← DL.out]; exact hno.out, rfl⟩, (hB.setCell (Nat.le_refl _) _).setCell (Nat.le_refl _) _⟩
      by_cases hi : 57 < bt D k
      · have hno := hide (okd_not D k hlt (by omega))
        go_wp2_with fail
        exact bodyPost_ret (v := .tuple #[(.agg #[.int .i64 (0), .int .i64 (0)]), .bool false]) (by simp [results, Tryd.results60, go_sem, c0, c1]) rfl ⟨.inr ⟨by rw [← DL.out]; exact hno.out, rfl⟩, (hB.setCell (Nat.le_refl _) _).setCell (Nat.le_refl _) _⟩
      · have kv : v < 10000000000000000 := by
          have h1 := vals_bound (D.data.toList.take k) 0 hO.out (Int.le_refl _)
          have h2 : (10 : Int) ^ (D.data.toList.take k).length ≤ 10000000000000000 := by
            have hl : (D.data.toList.take k).length ≤ 16 := by rw [List.length_take]; omega
            have h3 : (10 : Nat) ^ (D.data.toList.take k).length ≤ 10 ^ 16 := Nat.pow_le_pow_right (by decide) hl
            have e : (10 : Nat) ^ 16 = 10000000000000000 := by decide
            have h4 : ((10 ^ (D.data.toList.take k).length : Nat) : Int) ≤ 10000000000000000 := by omega
            simpa using h4
          have h5 := HV.out
          unfold numB at h5
          omega
        have kv0 := KB.1
        have e1 : IntKind.i64.wrap (v * 10) = v * 10 := IntWalk.i64_in _ (by omega)
        have e2 : IntKind.u8.wrap (bt D k - 48) = bt D k - 48 := by simp [IntKind.wrap, IntKind.bits]; omega
        have e3 : IntKind.i64.wrap (bt D k - 48) = bt D k - 48 := IntWalk.i64_in _ (by omega)
        have e4 : IntKind.i64.wrap (v * 10 + (bt D k - 48)) = v * 10 + (bt D k - 48) := IntWalk.i64_in _ (by omega)
        have hok := hide (okd_succ D k hlt hO.out (by omega) (by omega))
        have hnx : Hid (numB D (k + 1) = v * 10 + (bt D k - 48)) := hide (by rw [numB_succ D k hlt, HV.out])
        clear KB kv
        go_wp2_with fail
        go_region
        go_wp2_with fail
        go_roundw
        case rel => exact ⟨k + 1, by omega, by go_num, hok, by rw [hnx.out]; exact HH.out.put 0 _, below_drewB (hB.setCell (Nat.le_refl _) _)⟩
        case measure => simp [intOf]; omega
    · obtain rfl : k = D.size := by omega
      have q0 : decide ((D.size : Int) < (P.size : Int) + (F.size : Int)) = false := by simp; omega
      have hok : Hid (okd (rdDig s.data.toList)) := hide (by
        have h9 : D.data.toList.take D.size = D.data.toList := List.take_of_length_le (Nat.le_refl _)
        have := hO.out
        rw [h9, DL.out] at this
        exact this)
      have HN' := HN.out
      obtain ⟨v, hv⟩ : ∃ v, v = numB D D.size := ⟨_, rfl⟩
      have KB := numB_bound D D.size (by omega) hO.out
      rw [← hv] at c0 HN' KB hH
      have HN2 := hide HN'
      have e5 : IntKind.i64.wrap (-v) = -v := IntWalk.i64_in _ (by omega)
      have e6 : IntKind.i64.wrap (F.size : Int) = (F.size : Int) := IntWalk.i64_in _ (by omega)
      have FL2 : Hid ((F.size : Int) = (rdScale s.data.toList : Int)) := hide (by have := FL.out; have hz : F.data.toList.length = F.size := rfl; omega)
      clear HN' hv KB HN
      cases neg with
      | true =>
        have HN3 : Hid (rdInt s.data.toList = -v) := hide (by rw [HN2.out]; rfl)
        have H4 := (((hH.put 0 (.int .i64 (-v))).put 1 (.int .i64 (F.size : Int))).put 0 (.int .i64 (-v))).put 1 (.int .i64 (F.size : Int))
        have r0 := (H4.cell 0).trans (show _ = some (Value.int .i64 (-v)) from rfl)
        have r1 := (H4.cell 1).trans (show _ = some (Value.int .i64 (F.size : Int)) from rfl)
        go_wp2_with fail
        exact bodyPost_ret (v := .tuple #[(.agg #[.int .i64 (rdInt s.data.toList), .int .i64 ((rdScale s.data.toList : Int))]), .bool true]) (by rw [HN3.out, ← FL2.out]; simp [results, Tryd.results60, go_sem, r0, r1]) rfl ⟨.inl ⟨hok.out, rfl⟩, (((hB.setCell (Nat.le_refl _) _).setCell (Nat.le_refl _) _).setCell (Nat.le_refl _) _).setCell (Nat.le_refl _) _⟩
      | false =>
        have HN3 : Hid (rdInt s.data.toList = v) := hide (by rw [HN2.out]; rfl)
        have H4 := ((hH.put 1 (.int .i64 (F.size : Int))).put 0 (.int .i64 v)).put 1 (.int .i64 (F.size : Int))
        have r0 := (H4.cell 0).trans (show _ = some (Value.int .i64 (v)) from rfl)
        have r1 := (H4.cell 1).trans (show _ = some (Value.int .i64 (F.size : Int)) from rfl)
        go_wp2_with fail
        exact bodyPost_ret (v := .tuple #[(.agg #[.int .i64 (rdInt s.data.toList), .int .i64 ((rdScale s.data.toList : Int))]), .bool true]) (by rw [HN3.out, ← FL2.out]; simp [results, Tryd.results60, go_sem, r0, r1]) rfl ⟨.inl ⟨hok.out, rfl⟩, ((hB.setCell (Nat.le_refl _) _).setCell (Nat.le_refl _) _).setCell (Nat.le_refl _) _⟩
end Go.Proofs.YtgppimdakafniaaDoor
