/- The small functions of package charset: what each call returns. No condition. -/
import Derived.Test.YtmmigpncoojobacDoorProg
import Derived.Test.YtmmigpncoojobacDoorChMath
import Derived.WalkKit
import Derived.WalkLawsBesides
import Derived.WalkSpells
import Derived.Handy
import Derived.Outline
import Derived.Deep.QuietTactic
import Derived.BigQuiet
namespace Go.Proofs.YtmmigpncoojobacDoor
open Go Go.RowKit Go.PlainAid

theorem ret_bool {a b : Bool} (h : a = b) : Ending.returned (.bool a) = .returned (.bool b) := by rw [h]
theorem ret_int {k : IntKind} {a b : Int} (h : a = b) : Ending.returned (.int k a) = .returned (.int k b) := by rw [h]
theorem ret_int2 {k : IntKind} {a b c d : Int} (h : a = b) (h' : c = d) : Ending.returned (.tuple #[.int k a, .int k c]) = .returned (.tuple #[.int k b, .int k d]) := by rw [h, h']

theorem all_u8 {P : Int → Prop} (h : ∀ n : Fin 256, P ((n.val : Nat) : Int)) {b : Int} (h0 : 0 ≤ b) (h1 : b ≤ 255) : P b := by
  have := h ⟨b.toNat, by omega⟩
  simpa [Int.toNat_of_nonneg h0] using this

theorem bits_fol {b : Int} (h0 : 0 ≤ b) (h1 : b ≤ 255) : (bits BinOp.and IntKind.u8 b 192 == 128) = fol b :=
  all_u8 (P := fun b => (bits BinOp.and IntKind.u8 b 192 == 128) = fol b) (by decide +kernel) h0 h1

set_option maxHeartbeats 400000 in
theorem isFollowing_any (b : Int) (w : World) (h0 : 0 ≤ b) (h1 : b ≤ 255) :
    Calls Tryd.prog 38 #[.int .u8 b] w fun e w' => e = .returned (.bool (fol b)) ∧ w = w' := by
  go_enter Tryd.func38, Tryd.ntmps38
  go_wp2
  go_ret
  exact ⟨ret_bool (bits_fol h0 h1), rfl⟩

set_option maxHeartbeats 400000 in
theorem isPoint_any (p : Int) (w : World) :
    Calls Tryd.prog 39 #[.int .i64 p] w fun e w' => e = .returned (.bool (isPt p)) ∧ w = w' := by
  go_enter Tryd.func39, Tryd.ntmps39
  go_wp2
  all_goals
    go_ret
    refine ⟨ret_bool ?_, rfl⟩
    unfold isPt
    simp [*]
  all_goals (try omega)

/-- the table 'forms' -/
def formsV : List Value := [.int .u8 128, .int .u8 0, .int .i64 0, .int .u8 224, .int .u8 192, .int .i64 128, .int .u8 240, .int .u8 224, .int .i64 2048, .int .u8 248, .int .u8 240, .int .i64 65536]
def Forms (w : World) : Prop := ∀ i : Nat, w.cell? ⟨0, i, none⟩ = formsV[i]?
theorem Forms.at_ {w : World} (h : Forms w) {i : Nat} {v : Value} (e : formsV[i]? = some v) : w.cell? ⟨0, i, none⟩ = some v := (h i).trans e

theorem or_i64 {a b : Int} (i : Nat) (h0 : 0 ≤ a) (h1 : a < 4294967296) (h2 : a % (2 ^ i : Nat) = 0) (h3 : 0 ≤ b) (h4 : b < (2 ^ i : Nat)) (h5 : b < 4294967296) : bits BinOp.or IntKind.i64 a b = a + b := by
  obtain ⟨a, rfl⟩ := Int.eq_ofNat_of_zero_le h0
  obtain ⟨b, rfl⟩ := Int.eq_ofNat_of_zero_le h3
  have ha : (BitVec.ofInt 64 (a : Int)).toNat = a := ofInt_u64 a (by omega)
  have hb : (BitVec.ofInt 64 (b : Int)).toNat = b := ofInt_u64 b (by omega)
  have hj : a ||| b = a + b := nat_join i a b (by omega) (by omega)
  show IntKind.i64.wrap (((BitVec.ofInt 64 (a : Int)) ||| (BitVec.ofInt 64 (b : Int))).toNat : Int) = _
  rw [BitVec.toNat_or, ha, hb, hj, IntKind.wrap_i64]
  omega

theorem mask128 {b : Int} (h0 : 0 ≤ b) (h1 : b ≤ 255) : bits BinOp.andNot IntKind.u8 b 128 = b % 128 :=
  all_u8 (P := fun b => bits BinOp.andNot IntKind.u8 b 128 = b % 128) (by decide +kernel) h0 h1
theorem mask224 {b : Int} (h0 : 0 ≤ b) (h1 : b ≤ 255) : bits BinOp.andNot IntKind.u8 b 224 = b % 32 :=
  all_u8 (P := fun b => bits BinOp.andNot IntKind.u8 b 224 = b % 32) (by decide +kernel) h0 h1
theorem mask240 {b : Int} (h0 : 0 ≤ b) (h1 : b ≤ 255) : bits BinOp.andNot IntKind.u8 b 240 = b % 16 :=
  all_u8 (P := fun b => bits BinOp.andNot IntKind.u8 b 240 = b % 16) (by decide +kernel) h0 h1
theorem mask248 {b : Int} (h0 : 0 ≤ b) (h1 : b ≤ 255) : bits BinOp.andNot IntKind.u8 b 248 = b % 8 :=
  all_u8 (P := fun b => bits BinOp.andNot IntKind.u8 b 248 = b % 8) (by decide +kernel) h0 h1
theorem mask192 {b : Int} (h0 : 0 ≤ b) (h1 : b ≤ 255) : bits BinOp.andNot IntKind.u8 b 192 = b % 64 :=
  all_u8 (P := fun b => bits BinOp.andNot IntKind.u8 b 192 = b % 64) (by decide +kernel) h0 h1

set_option maxHeartbeats 400000 in
/-- decodeForm at form 0 -/
theorem decodeForm0 (s : ByteArray) (k : Nat) (w : World) (hF : Forms w) (hs : s.size ≤ maxLen) (hk : k < s.size) :
    Calls Tryd.prog 44 #[.string s, .int .i64 k, .int .i64 0] w fun e w' => e = .returned (.tuple #[.int .i64 (bt s k % 128), .int .i64 1]) ∧ ∃ n, w' = w.drewN n := by
  unfold maxLen at hs
  have hb := get_bt s
  have m0 := hF.at_ (i := 0) rfl
  have l0 := hF.at_ (i := 2) rfl
  have b0 := bt_nonneg s k
  have b1 := bt_le s k
  have e0 := mask128 b0 b1
  have hp : isPt (bt s k % 128) = true := by simp [isPt]; omega
  clear hF
  go_enter Tryd.func44, Tryd.ntmps44
  go_wp2
  go_quiet (fail)
  go_wp2
  go_rounds 1
  go_wp2_with (go_at_call 39; refine (isPoint_any _ _).mono ?_; rintro e w' ⟨rfl, rfl⟩)
  go_ret2
  exact ⟨rfl, _, rfl⟩

def p1 (s : ByteArray) (k : Nat) : Int := bt s k % 32 * 64 + bt s (k + 1) % 64
def df1 (s : ByteArray) (k : Nat) : Int × Int := if k + 1 < s.size ∧ fol (bt s (k + 1)) = true ∧ 128 ≤ p1 s k ∧ isPt (p1 s k) = true then (p1 s k, 2) else (0, 0)

set_option maxHeartbeats 2000000 in
/-- decodeForm at form 1 -/
theorem decodeForm1 (s : ByteArray) (k : Nat) (w : World) (hF : Forms w) (hs : s.size ≤ maxLen) (hk : k < s.size) :
    Calls Tryd.prog 44 #[.string s, .int .i64 k, .int .i64 1] w fun e w' => e = .returned (.tuple #[.int .i64 (df1 s k).1, .int .i64 (df1 s k).2]) ∧ ∃ n, w' = w.drewN n := by
  unfold maxLen at hs
  have hb := get_bt s
  have m0 := hF.at_ (i := 3) rfl
  have l0 := hF.at_ (i := 5) rfl
  have b0 := bt_nonneg s k
  have b1 := bt_le s k
  have e0 := mask224 b0 b1
  have c1 := bt_nonneg s (k + 1)
  have d1 := bt_le s (k + 1)
  have g1 := mask192 c1 d1
  have o1 := or_i64 (a := (bt s k % 32) * 64) (b := bt s (k + 1) % 64) 6 (by omega) (by omega) (by omega) (by omega) (by omega) (by omega)
  clear hF
  by_cases h0 : k + 1 < s.size
  rotate_left
  · rw [show df1 s k = (0, 0) from if_neg (fun h => h0 h.1)]
    go_enter Tryd.func44, Tryd.ntmps44
    go_wp2
    go_ret2
    exact ⟨rfl, 0, rfl⟩
  cases f1 : fol (bt s (k + 1))
  · rw [show df1 s k = (0, 0) from if_neg (fun h => by have := h.2.1; rw [f1] at this; cases this)]
    go_enter Tryd.func44, Tryd.ntmps44
    go_wp2
    go_quiet (fail)
    go_wp2_with fail
    refine wp_loop_rounds 1 ?_
    repeat any_goals (rw [rounds_succ]; go_wp2_with (first | (go_at_call 38; refine (isFollowing_any _ _ (by omega) (by omega)).mono ?_; rintro e w' ⟨rfl, rfl⟩) | (go_at_call 39; refine (isPoint_any _ _).mono ?_; rintro e w' ⟨rfl, rfl⟩)))
    go_ret2
    exact ⟨rfl, _, rfl⟩
  by_cases hl : 128 ≤ bt s k % 32 * 64 + bt s (k + 1) % 64
  rotate_left
  · rw [show df1 s k = (0, 0) from if_neg (fun h => hl h.2.2.1)]
    go_enter Tryd.func44, Tryd.ntmps44
    go_wp2
    go_quiet (fail)
    go_wp2_with fail
    refine wp_loop_rounds 2 ?_
    repeat any_goals (rw [rounds_succ]; go_wp2_with (first | (go_at_call 38; refine (isFollowing_any _ _ (by omega) (by omega)).mono ?_; rintro e w' ⟨rfl, rfl⟩) | (go_at_call 39; refine (isPoint_any _ _).mono ?_; rintro e w' ⟨rfl, rfl⟩)))
    go_ret2
    exact ⟨rfl, _, rfl⟩
  cases hp : isPt (bt s k % 32 * 64 + bt s (k + 1) % 64)
  · rw [show df1 s k = (0, 0) from if_neg (fun h => by have := h.2.2.2; unfold p1 at this; rw [hp] at this; cases this)]
    go_enter Tryd.func44, Tryd.ntmps44
    go_wp2
    go_quiet (fail)
    go_wp2_with fail
    refine wp_loop_rounds 2 ?_
    repeat any_goals (rw [rounds_succ]; go_wp2_with (first | (go_at_call 38; refine (isFollowing_any _ _ (by omega) (by omega)).mono ?_; rintro e w' ⟨rfl, rfl⟩) | (go_at_call 39; refine (isPoint_any _ _).mono ?_; rintro e w' ⟨rfl, rfl⟩)))
    go_ret2
    exact ⟨rfl, _, rfl⟩
  · rw [show df1 s k = (bt s k % 32 * 64 + bt s (k + 1) % 64, 2) from if_pos ⟨h0, f1, hl, hp⟩]
    go_enter Tryd.func44, Tryd.ntmps44
    go_wp2
    go_quiet (fail)
    go_wp2_with fail
    refine wp_loop_rounds 2 ?_
    repeat any_goals (rw [rounds_succ]; go_wp2_with (first | (go_at_call 38; refine (isFollowing_any _ _ (by omega) (by omega)).mono ?_; rintro e w' ⟨rfl, rfl⟩) | (go_at_call 39; refine (isPoint_any _ _).mono ?_; rintro e w' ⟨rfl, rfl⟩)))
    go_ret2
    exact ⟨rfl, _, rfl⟩

def p2 (s : ByteArray) (k : Nat) : Int := (bt s k % 16 * 64 + bt s (k + 1) % 64) * 64 + bt s (k + 2) % 64
def df2 (s : ByteArray) (k : Nat) : Int × Int := if k + 2 < s.size ∧ fol (bt s (k + 1)) = true ∧ fol (bt s (k + 2)) = true ∧ 2048 ≤ p2 s k ∧ isPt (p2 s k) = true then (p2 s k, 3) else (0, 0)

set_option maxHeartbeats 2000000 in
/-- decodeForm at form 2 -/
theorem decodeForm2 (s : ByteArray) (k : Nat) (w : World) (hF : Forms w) (hs : s.size ≤ maxLen) (hk : k < s.size) :
    Calls Tryd.prog 44 #[.string s, .int .i64 k, .int .i64 2] w fun e w' => e = .returned (.tuple #[.int .i64 (df2 s k).1, .int .i64 (df2 s k).2]) ∧ ∃ n, w' = w.drewN n := by
  unfold maxLen at hs
  have hb := get_bt s
  have m0 := hF.at_ (i := 6) rfl
  have l0 := hF.at_ (i := 8) rfl
  have b0 := bt_nonneg s k
  have b1 := bt_le s k
  have e0 := mask240 b0 b1
  have c1 := bt_nonneg s (k + 1)
  have d1 := bt_le s (k + 1)
  have g1 := mask192 c1 d1
  have o1 := or_i64 (a := (bt s k % 16) * 64) (b := bt s (k + 1) % 64) 6 (by omega) (by omega) (by omega) (by omega) (by omega) (by omega)
  have c2 := bt_nonneg s (k + 2)
  have d2 := bt_le s (k + 2)
  have g2 := mask192 c2 d2
  have o2 := or_i64 (a := (bt s k % 16 * 64 + bt s (k + 1) % 64) * 64) (b := bt s (k + 2) % 64) 6 (by omega) (by omega) (by omega) (by omega) (by omega) (by omega)
  clear hF
  by_cases h0 : k + 2 < s.size
  rotate_left
  · rw [show df2 s k = (0, 0) from if_neg (fun h => h0 h.1)]
    go_enter Tryd.func44, Tryd.ntmps44
    go_wp2
    go_ret2
    exact ⟨rfl, 0, rfl⟩
  cases f1 : fol (bt s (k + 1))
  · rw [show df2 s k = (0, 0) from if_neg (fun h => by have := h.2.1; rw [f1] at this; cases this)]
    go_enter Tryd.func44, Tryd.ntmps44
    go_wp2
    go_quiet (fail)
    go_wp2_with fail
    refine wp_loop_rounds 1 ?_
    repeat any_goals (rw [rounds_succ]; go_wp2_with (first | (go_at_call 38; refine (isFollowing_any _ _ (by omega) (by omega)).mono ?_; rintro e w' ⟨rfl, rfl⟩) | (go_at_call 39; refine (isPoint_any _ _).mono ?_; rintro e w' ⟨rfl, rfl⟩)))
    go_ret2
    exact ⟨rfl, _, rfl⟩
  cases f2 : fol (bt s (k + 2))
  · rw [show df2 s k = (0, 0) from if_neg (fun h => by have := h.2.2.1; rw [f2] at this; cases this)]
    go_enter Tryd.func44, Tryd.ntmps44
    go_wp2
    go_quiet (fail)
    go_wp2_with fail
    refine wp_loop_rounds 2 ?_
    repeat any_goals (rw [rounds_succ]; go_wp2_with (first | (go_at_call 38; refine (isFollowing_any _ _ (by omega) (by omega)).mono ?_; rintro e w' ⟨rfl, rfl⟩) | (go_at_call 39; refine (isPoint_any _ _).mono ?_; rintro e w' ⟨rfl, rfl⟩)))
    go_ret2
    exact ⟨rfl, _, rfl⟩
  by_cases hl : 2048 ≤ (bt s k % 16 * 64 + bt s (k + 1) % 64) * 64 + bt s (k + 2) % 64
  rotate_left
  · rw [show df2 s k = (0, 0) from if_neg (fun h => hl h.2.2.2.1)]
    go_enter Tryd.func44, Tryd.ntmps44
    go_wp2
    go_quiet (fail)
    go_wp2_with fail
    refine wp_loop_rounds 3 ?_
    repeat any_goals (rw [rounds_succ]; go_wp2_with (first | (go_at_call 38; refine (isFollowing_any _ _ (by omega) (by omega)).mono ?_; rintro e w' ⟨rfl, rfl⟩) | (go_at_call 39; refine (isPoint_any _ _).mono ?_; rintro e w' ⟨rfl, rfl⟩)))
    go_ret2
    exact ⟨rfl, _, rfl⟩
  cases hp : isPt ((bt s k % 16 * 64 + bt s (k + 1) % 64) * 64 + bt s (k + 2) % 64)
  · rw [show df2 s k = (0, 0) from if_neg (fun h => by have := h.2.2.2.2; unfold p2 at this; rw [hp] at this; cases this)]
    go_enter Tryd.func44, Tryd.ntmps44
    go_wp2
    go_quiet (fail)
    go_wp2_with fail
    refine wp_loop_rounds 3 ?_
    repeat any_goals (rw [rounds_succ]; go_wp2_with (first | (go_at_call 38; refine (isFollowing_any _ _ (by omega) (by omega)).mono ?_; rintro e w' ⟨rfl, rfl⟩) | (go_at_call 39; refine (isPoint_any _ _).mono ?_; rintro e w' ⟨rfl, rfl⟩)))
    go_ret2
    exact ⟨rfl, _, rfl⟩
  · rw [show df2 s k = ((bt s k % 16 * 64 + bt s (k + 1) % 64) * 64 + bt s (k + 2) % 64, 3) from if_pos ⟨h0, f1, f2, hl, hp⟩]
    go_enter Tryd.func44, Tryd.ntmps44
    go_wp2
    go_quiet (fail)
    go_wp2_with fail
    refine wp_loop_rounds 3 ?_
    repeat any_goals (rw [rounds_succ]; go_wp2_with (first | (go_at_call 38; refine (isFollowing_any _ _ (by omega) (by omega)).mono ?_; rintro e w' ⟨rfl, rfl⟩) | (go_at_call 39; refine (isPoint_any _ _).mono ?_; rintro e w' ⟨rfl, rfl⟩)))
    go_ret2
    exact ⟨rfl, _, rfl⟩

def p3 (s : ByteArray) (k : Nat) : Int := ((bt s k % 8 * 64 + bt s (k + 1) % 64) * 64 + bt s (k + 2) % 64) * 64 + bt s (k + 3) % 64
def df3 (s : ByteArray) (k : Nat) : Int × Int := if k + 3 < s.size ∧ fol (bt s (k + 1)) = true ∧ fol (bt s (k + 2)) = true ∧ fol (bt s (k + 3)) = true ∧ 65536 ≤ p3 s k ∧ isPt (p3 s k) = true then (p3 s k, 4) else (0, 0)

set_option maxHeartbeats 2000000 in
/-- decodeForm at form 3 -/
theorem decodeForm3 (s : ByteArray) (k : Nat) (w : World) (hF : Forms w) (hs : s.size ≤ maxLen) (hk : k < s.size) :
    Calls Tryd.prog 44 #[.string s, .int .i64 k, .int .i64 3] w fun e w' => e = .returned (.tuple #[.int .i64 (df3 s k).1, .int .i64 (df3 s k).2]) ∧ ∃ n, w' = w.drewN n := by
  unfold maxLen at hs
  have hb := get_bt s
  have m0 := hF.at_ (i := 9) rfl
  have l0 := hF.at_ (i := 11) rfl
  have b0 := bt_nonneg s k
  have b1 := bt_le s k
  have e0 := mask248 b0 b1
  have c1 := bt_nonneg s (k + 1)
  have d1 := bt_le s (k + 1)
  have g1 := mask192 c1 d1
  have o1 := or_i64 (a := (bt s k % 8) * 64) (b := bt s (k + 1) % 64) 6 (by omega) (by omega) (by omega) (by omega) (by omega) (by omega)
  have c2 := bt_nonneg s (k + 2)
  have d2 := bt_le s (k + 2)
  have g2 := mask192 c2 d2
  have o2 := or_i64 (a := (bt s k % 8 * 64 + bt s (k + 1) % 64) * 64) (b := bt s (k + 2) % 64) 6 (by omega) (by omega) (by omega) (by omega) (by omega) (by omega)
  have c3 := bt_nonneg s (k + 3)
  have d3 := bt_le s (k + 3)
  have g3 := mask192 c3 d3
  have o3 := or_i64 (a := ((bt s k % 8 * 64 + bt s (k + 1) % 64) * 64 + bt s (k + 2) % 64) * 64) (b := bt s (k + 3) % 64) 6 (by omega) (by omega) (by omega) (by omega) (by omega) (by omega)
  clear hF
  by_cases h0 : k + 3 < s.size
  rotate_left
  · rw [show df3 s k = (0, 0) from if_neg (fun h => h0 h.1)]
    go_enter Tryd.func44, Tryd.ntmps44
    go_wp2
    go_ret2
    exact ⟨rfl, 0, rfl⟩
  cases f1 : fol (bt s (k + 1))
  · rw [show df3 s k = (0, 0) from if_neg (fun h => by have := h.2.1; rw [f1] at this; cases this)]
    go_enter Tryd.func44, Tryd.ntmps44
    go_wp2
    go_quiet (fail)
    go_wp2_with fail
    refine wp_loop_rounds 1 ?_
    repeat any_goals (rw [rounds_succ]; go_wp2_with (first | (go_at_call 38; refine (isFollowing_any _ _ (by omega) (by omega)).mono ?_; rintro e w' ⟨rfl, rfl⟩) | (go_at_call 39; refine (isPoint_any _ _).mono ?_; rintro e w' ⟨rfl, rfl⟩)))
    go_ret2
    exact ⟨rfl, _, rfl⟩
  cases f2 : fol (bt s (k + 2))
  · rw [show df3 s k = (0, 0) from if_neg (fun h => by have := h.2.2.1; rw [f2] at this; cases this)]
    go_enter Tryd.func44, Tryd.ntmps44
    go_wp2
    go_quiet (fail)
    go_wp2_with fail
    refine wp_loop_rounds 2 ?_
    repeat any_goals (rw [rounds_succ]; go_wp2_with (first | (go_at_call 38; refine (isFollowing_any _ _ (by omega) (by omega)).mono ?_; rintro e w' ⟨rfl, rfl⟩) | (go_at_call 39; refine (isPoint_any _ _).mono ?_; rintro e w' ⟨rfl, rfl⟩)))
    go_ret2
    exact ⟨rfl, _, rfl⟩
  cases f3 : fol (bt s (k + 3))
  · rw [show df3 s k = (0, 0) from if_neg (fun h => by have := h.2.2.2.1; rw [f3] at this; cases this)]
    go_enter Tryd.func44, Tryd.ntmps44
    go_wp2
    go_quiet (fail)
    go_wp2_with fail
    refine wp_loop_rounds 3 ?_
    repeat any_goals (rw [rounds_succ]; go_wp2_with (first | (go_at_call 38; refine (isFollowing_any _ _ (by omega) (by omega)).mono ?_; rintro e w' ⟨rfl, rfl⟩) | (go_at_call 39; refine (isPoint_any _ _).mono ?_; rintro e w' ⟨rfl, rfl⟩)))
    go_ret2
    exact ⟨rfl, _, rfl⟩
  by_cases hl : 65536 ≤ ((bt s k % 8 * 64 + bt s (k + 1) % 64) * 64 + bt s (k + 2) % 64) * 64 + bt s (k + 3) % 64
  rotate_left
  · rw [show df3 s k = (0, 0) from if_neg (fun h => hl h.2.2.2.2.1)]
    go_enter Tryd.func44, Tryd.ntmps44
    go_wp2
    go_quiet (fail)
    go_wp2_with fail
    refine wp_loop_rounds 4 ?_
    repeat any_goals (rw [rounds_succ]; go_wp2_with (first | (go_at_call 38; refine (isFollowing_any _ _ (by omega) (by omega)).mono ?_; rintro e w' ⟨rfl, rfl⟩) | (go_at_call 39; refine (isPoint_any _ _).mono ?_; rintro e w' ⟨rfl, rfl⟩)))
    go_ret2
    exact ⟨rfl, _, rfl⟩
  cases hp : isPt (((bt s k % 8 * 64 + bt s (k + 1) % 64) * 64 + bt s (k + 2) % 64) * 64 + bt s (k + 3) % 64)
  · rw [show df3 s k = (0, 0) from if_neg (fun h => by have := h.2.2.2.2.2; unfold p3 at this; rw [hp] at this; cases this)]
    go_enter Tryd.func44, Tryd.ntmps44
    go_wp2
    go_quiet (fail)
    go_wp2_with fail
    refine wp_loop_rounds 4 ?_
    repeat any_goals (rw [rounds_succ]; go_wp2_with (first | (go_at_call 38; refine (isFollowing_any _ _ (by omega) (by omega)).mono ?_; rintro e w' ⟨rfl, rfl⟩) | (go_at_call 39; refine (isPoint_any _ _).mono ?_; rintro e w' ⟨rfl, rfl⟩)))
    go_ret2
    exact ⟨rfl, _, rfl⟩
  · rw [show df3 s k = (((bt s k % 8 * 64 + bt s (k + 1) % 64) * 64 + bt s (k + 2) % 64) * 64 + bt s (k + 3) % 64, 4) from if_pos ⟨h0, f1, f2, f3, hl, hp⟩]
    go_enter Tryd.func44, Tryd.ntmps44
    go_wp2
    go_quiet (fail)
    go_wp2_with fail
    refine wp_loop_rounds 4 ?_
    repeat any_goals (rw [rounds_succ]; go_wp2_with (first | (go_at_call 38; refine (isFollowing_any _ _ (by omega) (by omega)).mono ?_; rintro e w' ⟨rfl, rfl⟩) | (go_at_call 39; refine (isPoint_any _ _).mono ?_; rintro e w' ⟨rfl, rfl⟩)))
    go_ret2
    exact ⟨rfl, _, rfl⟩

end Go.Proofs.YtmmigpncoojobacDoor
