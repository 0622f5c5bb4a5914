/- The bytes of a number: what appendNumber, Put and the reference's Put return. No condition but the number's size. -/
import Derived.Test.YtdkkblkbonjjgabGreatDoorProg
import Derived.Test.YtdkkblkbonjjgabGreatDoorTagNumMath
import Derived.WalkKit
import Derived.WalkLawsBesides
import Derived.WalkSpells
import Derived.Handy
import Derived.Outline
import Derived.LoopTactic
import Derived.Deep.QuietTactic
import Derived.BigQuiet
import Derived.Deep.RegionHeld3
import Derived.Deep.AppendLies
import Derived.Deep.RegionWith
namespace Go.Proofs.YtdkkblkbonjjgabGreatDoor.TagN
open Go Go.RowKit Go.PlainAid

theorem hide {p : Prop} (h : p) : Hid p := h
/-- a number that can be written (behind a word of its own: the walk runs away at the numeral) -/
structure Fit (n : Nat) : Prop where
  lt : (n : Int) < 4611686018427387904
theorem all_u8 {P : Int → Prop} (h : ∀ n : Fin 256, P ((n.val : Nat) : Int)) {b : Int} (h0 : 0 ≤ b) (h1 : b ≤ 255) : P b := by
  have := h ⟨b.toNat, by omega⟩
  simpa [Int.toNat_of_nonneg h0] using this
theorem u8Info : (Tryz.prog.info? 5).map (fun i => (i.zero, i.size, i.bytes)) = some (some (.int .u8 0), 1, 1) := by kernel_rfl
theorem or128 {b : Int} (h0 : 0 ≤ b) (h1 : b ≤ 255) : bits BinOp.or IntKind.u8 b 128 = b % 128 + 128 :=
  all_u8 (P := fun b => bits BinOp.or IntKind.u8 b 128 = b % 128 + 128) (by decide +kernel) h0 h1
theorem own_string {w : World} {B m : Nat} {v : Value} {ns : List Int} (h : w.ownsRow B 5 1 v m (ns.map (Value.int .u8))) :
    (convert 47 9 v).run Tryz.prog w = .ok (.string (strOfNums ns)) w := by
  have hl : ns.length = m := by have := h.1; simpa using this
  rcases h.2 with ⟨rfl, h0⟩ | ⟨g, cap, cur, rfl, _⟩
  · subst h0
    obtain rfl : ns = [] := List.eq_nil_of_length_eq_zero hl
    exact run_convert_bytes_nil w 47 5 Tryz.underlying47 Tryz.underlying5 0 0 9 Tryz.underlying9
  · refine run_convert_bytes_arg w 47 5 Tryz.underlying47 Tryz.underlying5 g 0 m cap ns hl (fun i hi => ?_) 9 Tryz.underlying9
    rw [Nat.zero_add, h.cellAt i (by omega)]
    simp [List.getD, show i < ns.length by omega]

set_option maxRecDepth 100000 in
set_option maxHeartbeats 4000000 in
theorem append_any (n : Nat) (hn : Fit n) (w : World) :
    Calls Tryz.prog 12 #[.slice none 0 0, .int .i64 n] w fun e w' => ∃ v, e = .returned v ∧ w'.ownsRow w.heap.size 5 1 v (putL n).length ((putL n).map (Value.int .u8)) ∧ Below w.heap.size w w' := by
  go_enter Tryz.func12, Tryz.ntmps12
  go_wp2_with fail
  go_loopw [0, 1] (fun v x wr => ∃ (y : Int) (m : Nat) (ns : List Int), x = .int .i64 y ∧ 0 ≤ y ∧ Hid (y = m ∧ putL n = ns ++ putL m ∧ Fit m ∧ ns.length ≤ 9) ∧ wr.ownsRow w.heap.size 5 1 v ns.length (ns.map (Value.int .u8)) ∧ Below w.heap.size w wr) (fun _ x _ => (intOf x).toNat)
  case atStart => exact ⟨n, n, [], rfl, by omega, ⟨rfl, rfl, hn, by simp⟩, World.ownsRow_nil w w.heap.size 5 1, Below.refl _ _⟩
  case round =>
    obtain ⟨y, m, ns, rfl, hy, H, hown, hb⟩ := hrel
    obtain ⟨i0, hi, hz0, hz1, hz2⟩ := info_parts u8Info
    have hns := H.out.2.2.2
    have hsz := hb.size
    by_cases hlt : y < 128
    · have k64 : IntKind.u8.wrap y = y := IntWalk.u8_in _ (by omega)
      go_wp2_with (at_builtin; refine wpList_append_own _ rfl _ _ 47 rfl w.heap.size 5 i0 (.int .u8 0) 1 1 Tryz.underlying47 hi hz0 hz1 hz2 rfl (by decide) _ _ _ rfl (hown.alloc _) ⟨wr.heap.size, 0, none⟩ 1 1 [.int .u8 y] rfl rfl ?c1 ?c2 ?c3 ?c4 ?c5 ?_)
      case c1 => exact cell_one_new wr _ _
      case c2 => intro u hu; simp at hu; subst hu; rfl
      case c3 => unfold maxLen; omega
      case c4 => omega
      case c5 => simp; omega
      intro v' w2 hown' hgrow _
      have hb2 : Below w.heap.size w w2 := (hb.alloc (by omega) _).grown hgrow (by simp; omega) (fun k hk => (hown.lt k hk).1)
      clear hgrow hi hz0 hz1 hz2
      go_wp2_with fail
      go_ret
      obtain ⟨q1, q2, _, _⟩ := H.out
      have q3 : putL m = [y] := by rw [putL_small (n := m) (by omega), q1]
      rw [q2, q3]
      exact ⟨_, rfl, by simpa using hown', hb2⟩
    · have k64 : IntKind.u8.wrap y = y % 256 := by rw [IntKind.wrap_u8]
      have ko : bits BinOp.or IntKind.u8 (y % 256) 128 = y % 128 + 128 := by rw [or128 (by omega) (by omega)]; omega
      go_wp2_with (at_builtin; refine wpList_append_own _ rfl _ _ 47 rfl w.heap.size 5 i0 (.int .u8 0) 1 1 Tryz.underlying47 hi hz0 hz1 hz2 rfl (by decide) _ _ _ rfl (hown.alloc _) ⟨wr.heap.size, 0, none⟩ 1 1 [.int .u8 (y % 128 + 128)] rfl rfl (cell_one_new wr _ _) ?c2 ?c3 ?c4 ?c5 ?_)
      case c2 => first | rfl | (intro u hu; simp at hu; subst hu; rfl)
      case c3 => unfold maxLen; omega
      case c4 => omega
      case c5 => first | omega | (simp; omega)
      intro v' w2 hown' hgrow _
      have hb2 : Below w.heap.size w w2 := (hb.alloc (by omega) _).grown hgrow (by simp; omega) (fun k hk => (hown.lt k hk).1)
      clear hgrow hi hz0 hz1 hz2
      go_wp2_with fail
      obtain ⟨q1, q2, q3, _⟩ := H.out
      have hsh : y / 128 = ((m / 128 : Nat) : Int) := by omega
      go_roundw
      case rel =>
        refine ⟨y / 128, m / 128, ns ++ [y % 128 + 128], ?_, by omega, ⟨hsh, ?_, ⟨by have := q3.lt; omega⟩, ?_⟩, ?_, hb2⟩
        · rfl
        · rw [q2, putL_more (n := m) (by omega), List.append_assoc]
          congr 2
          rw [q1]
          omega
        · have hl := congrArg List.length q2
          rw [List.length_append] at hl
          have hN := hn.lt
          have := putL_len 8 n (by have : (128 : Nat) ^ (8 + 1) = 9223372036854775808 := by decide
                                   omega)
          have := putL_pos m
          have h2 : 1 < (putL m).length := by
            rw [putL_more (n := m) (by omega), List.length_cons]
            have := putL_pos (m / 128)
            omega
          simp only [List.length_append, List.length_singleton]
          omega
        · simpa using hown'
      case measure => simp [intOf]; omega

/-- the bytes of a number, as a text -/
def putB (n : Nat) : ByteArray := strOfNums (putL n)

set_option maxRecDepth 100000 in
set_option maxHeartbeats 4000000 in
theorem put_any (n : Nat) (hn : Fit n) (w : World) :
    Calls Tryz.prog 10 #[.int .i64 n] w fun e w' => e = .returned (.tuple #[.string (putB n), .int .i64 0]) ∧ Below w.heap.size w w' := by
  have hn2 : ¬ (4611686018427387903 < (n : Int)) := by have := hn.lt; omega
  go_enter Tryz.func10, Tryz.ntmps10
  go_wp2_with fail
  refine (append_any n hn _).mono ?_
  rintro e w1 ⟨v, rfl, hown, hb⟩
  have hc := own_string hown
  go_wp2_with fail
  go_returns
  exact ⟨rfl, hb⟩

theorem conv_one {W : World} {g : Nat} {b : Int} (h : W.cell? ⟨g, 0, none⟩ = some (.int .u8 b)) :
    (convert 47 9 (.slice (some ⟨g, 0, none⟩) 1 1)).run Tryz.prog W = .ok (.string (strOfNums [b])) W := by
  refine run_convert_bytes_arg W 47 5 Tryz.underlying47 Tryz.underlying5 g 0 1 1 [b] rfl (fun i hi => ?_) 9 Tryz.underlying9
  obtain rfl : i = 0 := by omega
  simpa using h
theorem below_step {w a b : World} (h : Below w.heap.size w a) (k : Below a.heap.size a b) : Below w.heap.size w b := h.trans (k.mono h.size)
theorem kept_then {X w1 : World} {g : Nat} {b : Int} {G : Prop} (hb : Below X.heap.size X w1) (h1 : g < X.heap.size) (h2 : X.cell? ⟨g, 0, none⟩ = some (.int .u8 b))
    (k : (convert 47 9 (.slice (some ⟨g, 0, none⟩) 1 1)).run Tryz.prog w1 = .ok (.string (strOfNums [b])) w1 → G) : G := k (conv_one ((hb.cell (p := ⟨g, 0, none⟩) h1).trans h2))
theorem cell_new (w : World) (v : Value) (t : TypeId) : (w.alloc (Obj.cells #[v] t)).cell? ⟨w.heap.size, 0, none⟩ = some v := by simp [go_sem]
theorem nums_list (l : List Int) : (strOfNums l).data.toList = l.map fun n => UInt8.ofNat n.toNat := rfl
theorem nums_size (l : List Int) : (strOfNums l).size = l.length := by
  show (strOfNums l).data.size = _
  rw [← Array.length_toList, nums_list, List.length_map]
theorem nums_append (a b : List Int) : strOfNums a ++ strOfNums b = strOfNums (a ++ b) := by
  apply ByteArray.ext
  apply Array.ext'
  rw [nums_list, List.map_append, ← nums_list, ← nums_list]
  simp
theorem putB_small {n : Nat} (h : n < 128) : putB n = strOfNums [(n : Int)] := by unfold putB; rw [putL_small h]
theorem putB_more {n : Nat} (h : ¬ n < 128) : strOfNums [(n : Int) % 128 + 128] ++ putB (n / 128) = putB n := by
  unfold putB
  rw [nums_append, putL_more h]
  congr 1
theorem putB_size {n : Nat} (h : Fit n) : (putB n).size ≤ 9 := by
  unfold putB
  rw [nums_size]
  have := h.lt
  exact putL_len 8 n (by have : (128 : Nat) ^ (8 + 1) = 9223372036854775808 := by decide
                         omega)

set_option maxRecDepth 100000 in
set_option maxHeartbeats 4000000 in
theorem refPut_any : ∀ (n : Nat), Fit n → ∀ (w : World), Calls Tryz.prog 5 #[.int .i64 n] w fun e w' => e = .returned (.string (putB n)) ∧ Below w.heap.size w w' := by
  intro n
  induction n using Nat.strongRecOn with
  | ind n ih =>
    intro hn w
    by_cases hlt : (n : Int) < 128
    · have k64 : IntKind.u8.wrap (n : Int) = n := IntWalk.u8_in _ (by omega)
      have hc := conv_one (W := w.alloc (Obj.cells #[.int .u8 (n : Int)] 5)) (cell_new w _ _)
      go_enter Tryz.func5, Tryz.ntmps5
      go_wp2_with fail
      go_returns
      exact ⟨by rw [putB_small (n := n) (by omega)]; rfl, (Below.refl _ w).alloc (Nat.le_refl _) _⟩
    · have hf : Fit (n / 128) := ⟨by have := hn.lt; omega⟩
      have hsz := putB_size hf
      have hr : ∀ W, Calls Tryz.prog 5 #[.int .i64 ((n : Int) / 128)] W fun e w' => e = .returned (.string (putB (n / 128))) ∧ Below W.heap.size W w' := fun W => ih (n / 128) (by omega) hf W
      have H := hide hr
      have E := hide (putB_more (n := n) (by omega))
      clear ih hr
      have k64 : IntKind.u8.wrap ((n : Int) % 128 + 128) = (n : Int) % 128 + 128 := IntWalk.u8_in _ (by omega)
      have hs1 : (strOfNums [(n : Int) % 128 + 128]).size = 1 := nums_size _
      have t1 : (n : Int).tmod 128 = (n : Int) % 128 := Int.tmod_eq_emod_of_nonneg (by omega)
      have t2 : IntKind.i64.wrap ((n : Int) % 128 + 128) = (n : Int) % 128 + 128 := IntWalk.i64_in _ (by omega)
      have t3 : IntKind.i64.wrap ((n : Int) / 128) = (n : Int) / 128 := IntWalk.i64_in _ (by have := hn.lt; omega)
      have hc := conv_one (W := (w.alloc (Obj.cells #[.int .u8 ((n : Int) % 128 + 128)] 5)).drew) (g := w.heap.size) (b := (n : Int) % 128 + 128) (by simp [go_sem])
      generalize putB (n / 128) = pb at *
      generalize hx : strOfNums [(n : Int) % 128 + 128] = xb at *
      go_enter Tryz.func5, Tryz.ntmps5
      go_wp2_with fail
      go_region_with (go_at_call 5; refine (H.out _).mono ?_; rintro e w1 ⟨rfl, hb⟩; first | (refine kept_then (g := w.heap.size) (b := (n : Int) % 128 + 128) hb ?q1 ?q2 (fun hc2 => ?_); (case q1 => simp); (case q2 => simp [go_sem]); rw [hx] at hc2) | (have hc3 := conv_one (W := w1.alloc (Obj.cells #[.int .u8 ((n : Int) % 128 + 128)] 5)) (g := w1.heap.size) (b := (n : Int) % 128 + 128) (by simp [go_sem]); rw [hx] at hc3))
      all_goals
        go_wp2_with fail
        go_returns
        refine ⟨by rw [← E.out]; rfl, ?_⟩
        first
          | exact below_step (((Below.refl _ w).alloc (Nat.le_refl _) _).drew) hb
          | exact (below_step ((Below.refl _ w).drew) hb).alloc (by have := hb.size; simpa using this) _
end Go.Proofs.YtdkkblkbonjjgabGreatDoor.TagN
