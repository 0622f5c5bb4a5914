/- The reference's texts of numbers and days. No condition but the ranges. -/
import Derived.Test.YtodfajjkngjgdaaDoorCalK
import Derived.Test.YtodfajjkngjgdaaDoorCalI
import Derived.Laws.BytesArg
namespace Go.Proofs.YtodfajjkngjgdaaDoor
open Go Go.RowKit Go.PlainAid

/-- the last k digits of n -/
def tail (n : Nat) : Nat → List UInt8
  | 0 => []
  | k + 1 => dgt (n / 10 ^ k % 10) :: tail n k

theorem cells_lit (w : World) (t : TypeId) (ns : List Int) (i : Nat) (hi : i < ns.length) : (w.alloc (.cells (ns.map (Value.int .u8)).toArray t)).cell? ⟨w.heap.size, 0 + i, none⟩ = some (.int .u8 (ns.getD i 0)) := by
  rw [cell_of_row _ _ _ _ _ _ (heap_alloc_new w _), Nat.zero_add]
  simp [List.getD, hi]

set_option maxHeartbeats 1000000 in
theorem refDigits_any (n count : Nat) (w : World) (hn : n ≤ 9999) (hc : count ≤ 4) :
    Calls Tryd.prog 53 #[.int .i64 n, .int .i64 count] w fun e w' => ∃ t : ByteArray, e = .returned (.string t) ∧ t.data.toList = tail n count ∧ Below w.heap.size w w' := by
  go_enter Tryd.func53, Tryd.ntmps53
  go_wp2_with fail
  go_loopw [0, 5, 6] (fun a s i wr => ∃ (k q : Nat) (t : ByteArray), k ≤ count ∧ i = .int .i64 k ∧ a = .int .i64 q ∧ s = .string t ∧ q ≤ 9999 ∧ t.size = k ∧ Hid (q = n / 10 ^ k) ∧ Hid (t.data.toList = tail n k) ∧ Below w.heap.size w wr) (fun _ _ i _ => count - (intOf i).toNat)
  case atStart => exact ⟨0, n, ⟨#[]⟩, Nat.zero_le _, rfl, rfl, rfl, hn, rfl, by show n = n / 10 ^ 0; simp, rfl, Below.refl _ _⟩
  case round =>
    obtain ⟨k, q, t, hk, rfl, rfl, rfl, hq, hz, hQ, hT, hbw⟩ := hrel
    have k1 := fun (a : Int) => run_convert_bytes_arg (P := Tryd.prog) (wr.alloc (.cells #[.int .u8 a] 5)) 63 5 Tryd.underlying63 Tryd.underlying5 wr.heap.size 0 1 1 [a] rfl (fun i hi => cells_lit wr 5 [a] i hi) 9 Tryd.underlying9
    have zs : ∀ x : Int, (strOfNums [x]).size = 1 := fun x => strOfNums_size [x]
    by_cases hlt : k < count
    · go_wp2_with fail
      go_roundw
      case rel => exact ⟨k + 1, q / 10, _, by omega, by go_num, by go_num, rfl, by omega, by rw [ByteArray.size_append, zs]; omega, hide (by rw [hQ.out, Nat.div_div_eq_div_mul, Nat.pow_succ]), hide (by
        rw [ByteArray.data_append, Array.toList_append, hT.out, strOfNums_data, tail, ← hQ.out]
        show UInt8.ofNat (48 + (q : Int) % 10).toNat :: _ = dgt (q % 10) :: _
        rw [dgt, show (48 + (q : Int) % 10).toNat = 48 + q % 10 by omega]
        rfl), hbw.alloc hbw.size _⟩
      case measure => simp [intOf]; omega
    · obtain rfl : k = count := by omega
      go_wp2_with fail
      go_ret
      exact ⟨t, rfl, hT.out, hbw⟩

theorem pad_tail2 {n : Nat} (h : n < 100) : padL n 2 = tail n 2 := by
  rw [pad2 h, tail, tail, tail]
  rw [show n / 10 ^ 1 % 10 = n / 10 by omega, show n / 10 ^ 0 % 10 = n % 10 by simp]
theorem pad_tail4 {n : Nat} (h : n < 10000) : padL n 4 = tail n 4 := by
  rw [pad4 h, tail, tail, tail, tail, tail]
  rw [show n / 10 ^ 3 % 10 = n / 1000 by omega, show n / 10 ^ 2 % 10 = n / 100 % 10 by omega, show n / 10 ^ 1 % 10 = n / 10 % 10 by omega, show n / 10 ^ 0 % 10 = n % 10 by simp]

set_option maxHeartbeats 4000000 in
theorem refText_any (n : Int) (w : World) (h1 : -719162 ≤ n) (h2 : n ≤ 2932896) :
    Calls Tryd.prog 31 #[.int .i64 n] w fun e w' => ∃ (t : ByteArray) (y m d : Nat), e = .returned (.string t) ∧ isDateB y m d ∧ daysN y m d = n ∧ t.data.toList = dateL y m d ∧ Below w.heap.size w w' := by
  go_enter Tryd.func31, Tryd.ntmps31
  go_wp2_with fail
  refine (refCivil_any n _ h1 h2).mono ?_
  rintro e w0 ⟨y', m', d', rfl, hd, hn, hb0⟩
  obtain ⟨y, rfl⟩ := Int.eq_ofNat_of_zero_le (show 0 ≤ y' by have := hd.1; omega)
  obtain ⟨m, rfl⟩ := Int.eq_ofNat_of_zero_le (show 0 ≤ m' by have := hd.2.2.1; omega)
  obtain ⟨d, rfl⟩ := Int.eq_ofNat_of_zero_le (show 0 ≤ d' by have := hd.2.2.2.2.1; omega)
  have hy := hd.2.1
  have hm := hd.2.2.2.1
  have hdd : (d : Int) ≤ 31 := by have := hd.2.2.2.2.2; have := mlen_bd y m; omega
  have HD := hide hd
  have HN := hide hn
  clear hd hn
  go_wp2_with fail
  refine (refDigits_any y 4 _ (by omega) (by omega)).mono ?_
  rintro e w1 ⟨t1, rfl, e1, hb1⟩
  have z1 : t1.size = 4 := by show t1.data.size = 4; rw [← Array.length_toList, e1]; rfl
  have E1 := hide e1
  have hb1 := below_step hb0 hb1
  clear e1 hb0
  go_wp2_with fail
  refine (refDigits_any m 2 _ (by omega) (by omega)).mono ?_
  rintro e w2 ⟨t2, rfl, e2, hb2⟩
  have z2 : t2.size = 2 := by show t2.data.size = 2; rw [← Array.length_toList, e2]; rfl
  have E2 := hide e2
  have hb2 := below_step hb1 hb2
  clear e2 hb1
  go_wp2_with fail
  refine (refDigits_any d 2 _ (by omega) (by omega)).mono ?_
  rintro e w3 ⟨t3, rfl, e3, hb3⟩
  have z3 : t3.size = 2 := by show t3.data.size = 2; rw [← Array.length_toList, e3]; rfl
  have E3 := hide e3
  have hb3 := below_step hb2 hb3
  clear e3 hb2
  go_wp2_with fail
  go_ret
  refine ⟨_, y, m, d, rfl, HD.out, HN.out, ?_, hb3⟩
  unfold dateL
  rw [pad_tail4 (by omega), pad_tail2 (by omega), pad_tail2 (by omega)]
  simp only [ByteArray.data_append, Array.toList_append, E1.out, E2.out, E3.out]
end Go.Proofs.YtodfajjkngjgdaaDoor
