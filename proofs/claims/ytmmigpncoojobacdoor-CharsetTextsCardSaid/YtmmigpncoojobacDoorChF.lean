/- What the reference's IsPoint, Encode, Decode, First and Points return. Conditions: code points for Encode; texts of at most 2^40 bytes. -/
import Derived.Test.YtmmigpncoojobacDoorChE
import Derived.Laws.BytesArg
namespace Go.Proofs.YtmmigpncoojobacDoor
open Go Go.RowKit Go.PlainAid

/-- the encoding of a code point, as numbers -/
def encL (p : Int) : List Int :=
  if p < 128 then [p] else if p < 2048 then [192 + p / 64, 128 + p % 64]
  else if p < 65536 then [224 + p / 4096, 128 + p / 64 % 64, 128 + p % 64]
  else [240 + p / 262144, 128 + p / 4096 % 64, 128 + p / 64 % 64, 128 + p % 64]
def encS (p : Int) : ByteArray := strOfNums (encL p)

set_option maxHeartbeats 400000 in
theorem refIsPoint_any (p : Int) (w : World) :
    Calls Tryd.prog 22 #[.int .i64 p] w fun e w' => e = .returned (.bool (isPt p)) ∧ w = w' := by
  go_enter Tryd.func22, Tryd.ntmps22
  go_wp2
  all_goals
    go_ret
    refine ⟨ret_bool ?_, rfl⟩
    unfold isPt
    simp [*]
  all_goals (try omega)

theorem cells_lit (w : World) (t : TypeId) (ns : List Int) (i : Nat) (hi : i < ns.length) : (w.alloc (.cells (ns.map (Value.int .u8)).toArray t)).cell? ⟨w.heap.size, 0 + i, none⟩ = some (.int .u8 (ns.getD i 0)) := by
  rw [cell_of_row _ _ _ _ _ _ (heap_alloc_new w _), Nat.zero_add]
  simp [List.getD, hi]

set_option maxHeartbeats 1000000 in
theorem refEncode_any (p : Int) (w : World) (h0 : 0 ≤ p) (h1 : p ≤ 1114111) :
    Calls Tryd.prog 23 #[.int .i64 p] w fun e w' => e = .returned (.string (encS p)) ∧ Below w.heap.size w w' := by
  have k1 := fun (a : Int) => run_convert_bytes_arg (P := Tryd.prog) (w.alloc (.cells #[.int .u8 a] 5)) 51 5 Tryd.underlying51 Tryd.underlying5 w.heap.size 0 1 1 [a] rfl (fun i hi => cells_lit w 5 [a] i hi) 9 Tryd.underlying9
  have k2 := fun (a b : Int) => run_convert_bytes_arg (P := Tryd.prog) (w.alloc (.cells #[.int .u8 a, .int .u8 b] 5)) 51 5 Tryd.underlying51 Tryd.underlying5 w.heap.size 0 2 2 [a, b] rfl (fun i hi => cells_lit w 5 [a, b] i hi) 9 Tryd.underlying9
  have k3 := fun (a b c : Int) => run_convert_bytes_arg (P := Tryd.prog) (w.alloc (.cells #[.int .u8 a, .int .u8 b, .int .u8 c] 5)) 51 5 Tryd.underlying51 Tryd.underlying5 w.heap.size 0 3 3 [a, b, c] rfl (fun i hi => cells_lit w 5 [a, b, c] i hi) 9 Tryd.underlying9
  have k4 := fun (a b c d : Int) => run_convert_bytes_arg (P := Tryd.prog) (w.alloc (.cells #[.int .u8 a, .int .u8 b, .int .u8 c, .int .u8 d] 5)) 51 5 Tryd.underlying51 Tryd.underlying5 w.heap.size 0 4 4 [a, b, c, d] rfl (fun i hi => cells_lit w 5 [a, b, c, d] i hi) 9 Tryd.underlying9
  by_cases c1 : p < 128
  · rw [show encS p = strOfNums [p] by unfold encS encL; rw [if_pos c1]]
    go_enter Tryd.func23, Tryd.ntmps23
    go_wp2_with fail
    go_ret
    exact ⟨rfl, (Below.refl _ _).alloc (Nat.le_refl _) _⟩
  by_cases c2 : p < 2048
  · rw [show encS p = strOfNums [192 + p / 64, 128 + p % 64] by unfold encS encL; rw [if_neg c1, if_pos c2]]
    go_enter Tryd.func23, Tryd.ntmps23
    go_wp2_with fail
    go_ret
    exact ⟨rfl, (Below.refl _ _).alloc (Nat.le_refl _) _⟩
  by_cases c3 : p < 65536
  · rw [show encS p = strOfNums [224 + p / 4096, 128 + p / 64 % 64, 128 + p % 64] by unfold encS encL; rw [if_neg c1, if_neg c2, if_pos c3]]
    go_enter Tryd.func23, Tryd.ntmps23
    go_wp2_with fail
    go_ret
    exact ⟨rfl, (Below.refl _ _).alloc (Nat.le_refl _) _⟩
  · rw [show encS p = strOfNums [240 + p / 262144, 128 + p / 4096 % 64, 128 + p / 64 % 64, 128 + p % 64] by unfold encS encL; rw [if_neg c1, if_neg c2, if_neg c3]]
    go_enter Tryd.func23, Tryd.ntmps23
    go_wp2_with fail
    go_ret
    exact ⟨rfl, (Below.refl _ _).alloc (Nat.le_refl _) _⟩

end Go.Proofs.YtmmigpncoojobacDoor
