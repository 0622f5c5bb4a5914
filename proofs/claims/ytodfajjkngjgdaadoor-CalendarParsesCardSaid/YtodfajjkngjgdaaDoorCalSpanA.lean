/- The cutting of durations' texts. Condition: the table of the units holds what the program's text lays. -/
import Derived.Test.YtodfajjkngjgdaaDoorCalSpanM
import Derived.LoopN
import Derived.Deep.RegionHeld3
namespace Go.Proofs.YtodfajjkngjgdaaDoor
open Go Go.RowKit Go.PlainAid

set_option maxHeartbeats 2000000 in
theorem cutNumber_dg (s : ByteArray) (size : Nat) (w : World) (h6 : size ≤ 6) (hs : size ≤ s.size) (hd : digs s size) :
    Calls Tryd.prog 66 #[.string s, .int .i64 size, .string ⟨#[]⟩] w fun e w' => e = .returned (.tuple #[.int .i64 (num s size), .string (dropB s size), .bool true]) ∧ w' = w := by
  have hb := get_bt s
  have hb0 := bt_nonneg s
  have hb1 := bt_le s
  have HD := hide hd
  clear hd
  go_enter Tryd.func66, Tryd.ntmps66
  go_wp2_with fail
  go_loop [6, 15] (fun r i => ∃ k : Nat, k ≤ size ∧ i = .int .i64 k ∧ r = .int .i64 (num s k)) (fun _ i => size - (intOf i).toNat)
  case atStart => exact ⟨0, by omega, rfl, rfl⟩
  case round =>
    obtain ⟨k, hk, rfl, rfl⟩ := hrel
    have hn := num_le (e := 6) (fun i (hi : i < k) => HD.out i (by omega)) (by omega)
    rw [show ((10 ^ 6 : Nat) : Int) = 1000000 by decide] at hn
    obtain ⟨n0, n1⟩ := hn
    by_cases hlt : k < size
    · obtain ⟨c1, c2⟩ := HD.out k hlt
      go_wp2_with (go_at_call 69; go_in)
      go_round
      case rel => exact ⟨k + 1, by omega, by go_num, by simp only [num]⟩
      case measure => simp [intOf]; omega
    · obtain rfl : k = size := by omega
      go_wp2_with fail
      refine (Tryd.strings_CutPrefix _ ⟨#[]⟩ _).mono ?_
      rintro e w' ⟨rfl, rfl⟩
      go_wp2_with fail
      go_ret3
      refine ⟨?_, rfl⟩
      rw [(trim_none _).1, (trim_none _).2]
      have : List.take (s.size - k) (List.drop k s.data.toList) = List.drop k s.data.toList := List.take_of_length_le (by rw [List.length_drop, size_list]; omega)
      first | rw [this]; rfl | (simp only [this]; rfl)

/-- the milliseconds of a unit's name -/
def unitOf (u : List UInt8) : Nat := if u = [100] then 86400000 else if u = [104] then 3600000 else if u = [109] then 60000 else if u = [115] then 1000 else if u = [109, 115] then 1 else 0
theorem unitOf_unitB {k : Nat} (h : k ≤ 4) : unitOf (unitB k) = unitN k := by
  match k, h with
  | 0, _ => rfl
  | 1, _ => rfl
  | 2, _ => rfl
  | 3, _ => rfl
  | 4, _ => rfl
theorem unitOf_cases (u : List UInt8) : (u = [100] ∧ unitOf u = 86400000) ∨ (u = [104] ∧ unitOf u = 3600000) ∨ (u = [109] ∧ unitOf u = 60000) ∨ (u = [115] ∧ unitOf u = 1000) ∨ (u = [109, 115] ∧ unitOf u = 1) ∨ (u ≠ [100] ∧ u ≠ [104] ∧ u ≠ [109] ∧ u ≠ [115] ∧ u ≠ [109, 115] ∧ unitOf u = 0) := by
  unfold unitOf
  by_cases h0 : u = [100]
  · simp [h0]
  by_cases h1 : u = [104]
  · simp [h1]
  by_cases h2 : u = [109]
  · simp [h2]
  by_cases h3 : u = [115]
  · simp [h3]
  by_cases h4 : u = [109, 115]
  · simp [h4]
  simp [h0, h1, h2, h3, h4]

/-- the bytes before k -/
def takeB (s : ByteArray) (k : Nat) : ByteArray := ⟨(s.data.toList.take k).toArray⟩

theorem keepOne {W X : World} {a : Addr} {v : Value} (h : Below W.heap.size W X) (l : a.block < W.heap.size) (c : W.cell? a = some v) : X.cell? a = some v ∧ Below W.heap.size W X := ⟨(h.cell l).trans c, h⟩
theorem units_name {k : Nat} (hk : k < 5) : unitsV[k * 2]? = some (.string ⟨(unitB k).toArray⟩) := by
  have : k = 0 ∨ k = 1 ∨ k = 2 ∨ k = 3 ∨ k = 4 := by omega
  rcases this with rfl | rfl | rfl | rfl | rfl <;> rfl
theorem units_num {k : Nat} (hk : k < 5) : unitsV[k * 2 + 1]? = some (.int .i64 (unitN k)) := by
  have : k = 0 ∨ k = 1 ∨ k = 2 ∨ k = 3 ∨ k = 4 := by omega
  rcases this with rfl | rfl | rfl | rfl | rfl <;> rfl
theorem units_lt {w : World} (h : Units w) : 0 < w.heap.size := World.block_lt_of_cell? w _ (h.at_ (i := 0) rfl)

theorem ext_take (s : ByteArray) (n : Nat) : (s.extract 0 n).toList = s.data.toList.take n := by
  rw [ByteArray.toList_eq, ByteArray.data_extract, Array.toList_extract, List.extract_eq_take_drop]
  simp
theorem ext_drop (s : ByteArray) (n : Nat) : s.extract n s.size = dropB s n := by
  apply ByteArray.ext
  apply Array.toList_inj.1
  rw [ByteArray.data_extract, Array.toList_extract, List.extract_eq_take_drop, dropB_list]
  exact List.take_of_length_le (by rw [List.length_drop, size_list]; omega)

/-- what cutUnit returns, where j is the unit's number (5: none) -/
def unitV (s : ByteArray) (k j : Nat) : Value := if j < 5 then .tuple #[.int .i64 (unitN j), .string (dropB s k), .bool true] else .tuple #[.int .i64 0, .string ⟨#[]⟩, .bool false]

set_option maxHeartbeats 4000000 in
theorem cutUnit_any (s : ByteArray) (k j : Nat) (w : World) (hU : Units w) (hn : Name s k) (hj : j ≤ 5) (hu : j < 5 → s.data.toList.take k = unitB j) (hne : ∀ i, i < j → s.data.toList.take k ≠ unitB i) (hz : s.size ≤ 100) :
    Calls Tryd.prog 70 #[.string s] w fun e w' => e = .returned (unitV s k j) ∧ Below w.heap.size w w' := by
  have hb := get_bt s
  have hb0 := bt_nonneg s
  have hb1 := bt_le s
  obtain ⟨n1, n2, n3⟩ := hn
  have N2 := hide n2
  have N3 := hide n3
  have HU := hide hU
  have HE := hide hu
  have HN := hide hne
  obtain ⟨V, hV⟩ : ∃ V, V = unitV s k j := ⟨_, rfl⟩
  rw [← hV]
  have HV := hide hV
  clear n2 n3 hU hu hne hV
  go_enter Tryd.func70, Tryd.ntmps70
  go_wp2_with fail
  go_loop [5] (fun i => ∃ n : Nat, n ≤ k ∧ i = .int .i64 n) (fun i => k - (intOf i).toNat)
  case atStart => exact ⟨0, by omega, rfl⟩
  case round =>
    obtain ⟨n, hnk, rfl⟩ := hrel
    by_cases hlt : n < k
    · have hno := N2.out n hlt
      have hlt2 : n < s.size := by omega
      by_cases c1 : 48 ≤ bt s n
      · have c2 : ¬ bt s n ≤ 57 := fun h => hno ⟨c1, h⟩
        clear hno
        go_wp2_with (go_at_call 69; go_in)
        go_round
        case rel => exact ⟨n + 1, by omega, by go_num⟩
        case measure => simp [intOf]; omega
      · clear hno
        go_wp2_with (go_at_call 69; go_in)
        go_round
        case rel => exact ⟨n + 1, by omega, by go_num⟩
        case measure => simp [intOf]; omega
    · obtain rfl : n = k := by omega
      have i0 : (0 : Int) ≤ (n : Int) := by omega
      have i1 : (n : Int) ≤ (s.size : Int) := by omega
      have hc : s.size ≤ n ∨ (n < s.size ∧ 48 ≤ bt s n ∧ bt s n ≤ 57) := by
        rcases Nat.lt_or_ge n s.size with h | h
        · exact .inr ⟨h, N3.out h⟩
        · exact .inl h
      clear hlt
      rcases hc with hs | ⟨hs, d1, d2⟩
      all_goals
        go_wp2_with (go_at_call 69; go_in)
        go_loopw [20] (fun i wr => ∃ x : Nat, x ≤ j ∧ i = .int .i64 x ∧ Below w.heap.size w wr) (fun i _ => 5 - (intOf i).toNat)
        case atStart => exact ⟨0, Nat.zero_le _, rfl, Below.refl _ _⟩
        case round =>
          obtain ⟨x, hx, rfl, hbw⟩ := hrel
          have HB := hide hbw
          have hU := HU.out.below hbw
          by_cases hx5 : x < 5
          · have cT' : wr.cell? ⟨0, x * 2, none⟩ = some (.string ⟨(unitB x).toArray⟩) := hU.at_ (units_name hx5)
            have cN' : wr.cell? ⟨0, x * 2 + 1, none⟩ = some (.int .i64 (unitN x)) := hU.at_ (units_num hx5)
            have i2 : (0 : Int) ≤ (x : Int) := by omega
            have i3 : (x : Int) < 5 := by omega
            clear hU hbw
            by_cases hxj : x = j
            · have q : (unitB x == (s.extract 0 n).toList) = true := by
                rw [ext_take, HE.out (by omega), hxj]; simp
              have ED := hide (ext_drop s n)
              have HX := hide hxj
              clear hxj
              go_wp2_with fail
              go_quiet (fail)
              go_wp2_with fail
              go_quiet (fail)
              go_wp2_with fail
              go_ret3
              refine ⟨?_, below_drewN (below_drewN HB.out _) _⟩
              rw [HV.out, unitV, if_pos (by have := HX.out; omega), ED.out, HX.out]
              rfl
            · have q : (unitB x == (s.extract 0 n).toList) = false := by
                rw [ext_take]
                simp only [beq_eq_false_iff_ne, ne_eq]
                exact fun h => HN.out x (by omega) h.symm
              go_wp2_with fail
              go_quiet (fail)
              go_wp2_with fail
              go_roundw
              case rel => exact ⟨x + 1, by omega, by go_num, below_drewN HB.out _⟩
              case measure => simp [intOf]; omega
          · obtain rfl : x = 5 := by omega
            clear hU hbw
            go_wp2_with fail
            go_ret3
            refine ⟨?_, HB.out⟩
            rw [HV.out, unitV, if_neg (by omega)]
            rfl

set_option maxHeartbeats 4000000 in
theorem cutSpan_no (s : ByteArray) (k : Nat) (w : World) (hk : Lead s k) (hn : k = 0 ∨ 6 < k) (hz : s.size ≤ 100) :
    Calls Tryd.prog 63 #[.string s] w fun e w' => e = .returned (.tuple #[.int .i64 0, .string ⟨#[]⟩, .bool false]) ∧ w' = w := by
  have hb := get_bt s
  have hb0 := bt_nonneg s
  have hb1 := bt_le s
  obtain ⟨n1, n2, n3⟩ := hk
  have N2 := hide n2
  have N3 := hide n3
  clear n2 n3
  go_enter Tryd.func63, Tryd.ntmps63
  go_wp2_with fail
  go_loop [5] (fun i => ∃ n : Nat, n ≤ k ∧ i = .int .i64 n) (fun i => k - (intOf i).toNat)
  case atStart => exact ⟨0, by omega, rfl⟩
  case round =>
    obtain ⟨n, hnk, rfl⟩ := hrel
    by_cases hlt : n < k
    · obtain ⟨c1, c2⟩ := N2.out n hlt
      have hlt2 : n < s.size := by omega
      clear hn
      go_wp2_with (go_at_call 69; go_in)
      go_round
      case rel => exact ⟨n + 1, by omega, by go_num⟩
      case measure => simp [intOf]; omega
    · obtain rfl : n = k := by omega
      have hc : s.size ≤ n ∨ (n < s.size ∧ ¬ 48 ≤ bt s n) ∨ (n < s.size ∧ 48 ≤ bt s n ∧ ¬ bt s n ≤ 57) := by
        rcases Nat.lt_or_ge n s.size with h | h
        · have := N3.out h
          by_cases c : 48 ≤ bt s n
          · exact .inr (.inr ⟨h, c, fun c2 => this ⟨c, c2⟩⟩)
          · exact .inr (.inl ⟨h, c⟩)
        · exact .inl h
      clear hlt
      have hn' : (n = 0 ∧ ((n : Int) == 0) = true) ∨ (6 < n ∧ ((n : Int) == 0) = false) := by
        rcases hn with h | h
        · exact .inl ⟨h, by simp [h]⟩
        · exact .inr ⟨h, by simp; omega⟩
      clear hn
      rcases hn' with ⟨h1, h2⟩ | ⟨h1, h2⟩
      all_goals
        have H1 := hide h1
        try clear h1
        try (have h1 : 6 < n := H1.out)
        rcases hc with hs | ⟨hs, d1⟩ | ⟨hs, d1, d2⟩
        all_goals
          go_wp2_with (go_at_call 69; go_in)
          go_ret3
          exact ⟨rfl, rfl⟩

/-- what cutSpan returns -/
def spanV (s : ByteArray) (k k2 j : Nat) : Value := if j < 5 then .tuple #[.int .i64 (num s k * (unitN j : Nat)), .string (dropB (dropB s k) k2), .bool true] else .tuple #[.int .i64 0, .string ⟨#[]⟩, .bool false]

set_option maxHeartbeats 4000000 in
theorem cutSpan_any (s : ByteArray) (k k2 j : Nat) (w : World) (hU : Units w) (hk : Lead s k) (h1 : 1 ≤ k) (h6 : k ≤ 6) (hn : Name (dropB s k) k2) (hj : j ≤ 5) (hu : j < 5 → (dropB s k).data.toList.take k2 = unitB j) (hne : ∀ i, i < j → (dropB s k).data.toList.take k2 ≠ unitB i) (hz : s.size ≤ 100) :
    Calls Tryd.prog 63 #[.string s] w fun e w' => e = .returned (spanV s k k2 j) ∧ Below w.heap.size w w' := by
  have hb := get_bt s
  have hb0 := bt_nonneg s
  have hb1 := bt_le s
  obtain ⟨n1, n2, n3⟩ := hk
  have N2 := hide n2
  have N3 := hide n3
  have HN := hide hn
  have HE := hide hu
  have HM := hide hne
  obtain ⟨V, hV⟩ : ∃ V, V = spanV s k k2 j := ⟨_, rfl⟩
  rw [← hV]
  have HV := hide hV
  clear n2 n3 hn hu hne hV
  go_enter Tryd.func63, Tryd.ntmps63
  go_wp2_with fail
  go_loop [5] (fun i => ∃ n : Nat, n ≤ k ∧ i = .int .i64 n) (fun i => k - (intOf i).toNat)
  case atStart => exact ⟨0, by omega, rfl⟩
  case round =>
    obtain ⟨n, hnk, rfl⟩ := hrel
    by_cases hlt : n < k
    · obtain ⟨c1, c2⟩ := N2.out n hlt
      have hlt2 : n < s.size := by omega
      go_wp2_with (go_at_call 69; go_in)
      go_round
      case rel => exact ⟨n + 1, by omega, by go_num⟩
      case measure => simp [intOf]; omega
    · obtain rfl : n = k := by omega
      have hc : s.size ≤ n ∨ (n < s.size ∧ ¬ 48 ≤ bt s n) ∨ (n < s.size ∧ 48 ≤ bt s n ∧ ¬ bt s n ≤ 57) := by
        rcases Nat.lt_or_ge n s.size with h | h
        · have := N3.out h
          by_cases c : 48 ≤ bt s n
          · exact .inr (.inr ⟨h, c, fun c2 => this ⟨c, c2⟩⟩)
          · exact .inr (.inl ⟨h, c⟩)
        · exact .inl h
      have q0 : ((n : Int) == 0) = false := by simp; omega
      have hnum := num_le (e := 6) N2.out h6
      rw [show ((10 ^ 6 : Nat) : Int) = 1000000 by decide] at hnum
      obtain ⟨m0, m1⟩ := hnum
      have CN : Hid (∀ W, Calls Tryd.prog 66 #[.string s, .int .i64 n, .string ⟨#[]⟩] W fun e w' => e = .returned (.tuple #[.int .i64 (num s n), .string (dropB s n), .bool true]) ∧ w' = W) := hide fun W => cutNumber_dg s n W h6 n1 N2.out
      have zd : (dropB s n).size ≤ 100 := by rw [dropB_size]; omega
      have CU : Hid (∀ W, Units W → Calls Tryd.prog 70 #[.string (dropB s n)] W fun e w' => e = .returned (unitV (dropB s n) k2 j) ∧ Below W.heap.size W w') := hide fun W hU => cutUnit_any (dropB s n) k2 j W hU HN.out hj HE.out HM.out zd
      have HU := hide hU
      clear hlt hU zd
      by_cases hj5 : j < 5
      · rw [spanV, if_pos hj5] at HV
        simp only [unitV, if_pos hj5] at CU
        have hun : (0 : Int) ≤ (unitN j : Int) ∧ (unitN j : Int) ≤ 86400000 := by unfold unitN; split <;> decide
        obtain ⟨u0, u1⟩ := hun
        have wm : IntKind.i64.wrap (num s n * (unitN j : Int)) = num s n * (unitN j : Int) := by
          have := Int.mul_nonneg m0 u0
          have h2 : num s n * (unitN j : Int) ≤ 1000000 * 86400000 := Int.mul_le_mul (by omega) u1 u0 (by decide)
          exact IntWalk.i64_in _ (by omega)
        rcases hc with hs | ⟨hs, d1⟩ | ⟨hs, d1, d2⟩
        all_goals
          go_wp2_with (go_at_call 69; go_in)
          refine (CN.out _).mono ?_
          rintro e w' ⟨rfl, rfl⟩
          go_wp2_with fail
          refine (CU.out _ HU.out).mono ?_
          rintro e w' ⟨rfl, hb2⟩
          go_wp2_with fail
          go_ret3
          refine ⟨?_, hb2⟩
          rw [HV.out]
          first | rfl | (rw [← wm]; rfl)
      · rw [spanV, if_neg hj5] at HV
        simp only [unitV, if_neg hj5] at CU
        rcases hc with hs | ⟨hs, d1⟩ | ⟨hs, d1, d2⟩
        all_goals
          go_wp2_with (go_at_call 69; go_in)
          refine (CN.out _).mono ?_
          rintro e w' ⟨rfl, rfl⟩
          go_wp2_with fail
          refine (CU.out _ HU.out).mono ?_
          rintro e w' ⟨rfl, hb2⟩
          go_wp2_with fail
          go_ret3
          refine ⟨?_, hb2⟩
          rw [HV.out]
          first | rfl | (simp; done)
end Go.Proofs.YtodfajjkngjgdaaDoor
