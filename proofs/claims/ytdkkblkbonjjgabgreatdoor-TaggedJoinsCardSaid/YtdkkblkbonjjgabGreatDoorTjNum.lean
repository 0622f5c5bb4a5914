/- What checkNumber, appendNumber, appendBytes and appendPart return: bytes appended to a row of the call's own. No condition but the sizes. -/
import Derived.Test.YtdkkblkbonjjgabGreatDoorTagNum
import Derived.Test.YtdkkblkbonjjgabGreatDoorTjRow
import Derived.Lib.AppendStr
namespace Go.Proofs.YtdkkblkbonjjgabGreatDoor.Tj
open Go Go.RowKit Go.PlainAid TagN
theorem below_step {w a b : World} (h : Below w.heap.size w a) (k : Below a.heap.size a b) : Below w.heap.size w b := h.trans (k.mono h.size)
/-- the error of a number behind another -/
def cn (n b : Int) : Int := if n < 1 ∨ 9999 < n then 2 else if n ≤ b then 24 else 0
theorem check_any (n b : Int) (w : World) : Calls Tryz.prog 11 #[.int .i64 n, .int .i64 b] w fun e w' => e = .returned (.int .i64 (cn n b)) ∧ w' = w := by
  have h : n < 1 ∨ (¬ n < 1 ∧ 9999 < n) ∨ (¬ n < 1 ∧ ¬ 9999 < n ∧ n ≤ b) ∨ (¬ n < 1 ∧ ¬ 9999 < n ∧ ¬ n ≤ b) := by omega
  rcases h with h1 | ⟨h1, h2⟩ | ⟨h1, h2, h3⟩ | ⟨h1, h2, h3⟩
  · have hd : cn n b = 2 := by unfold cn; rw [if_pos (.inl h1)]
    rw [hd]
    clear hd
    go_enter Tryz.func11, Tryz.ntmps11
    go_wp2_with fail
    go_returns
    exact ⟨rfl, rfl⟩
  · have hd : cn n b = 2 := by unfold cn; rw [if_pos (.inr h2)]
    rw [hd]
    clear hd
    go_enter Tryz.func11, Tryz.ntmps11
    go_wp2_with fail
    go_returns
    exact ⟨rfl, rfl⟩
  · have hd : cn n b = 24 := by unfold cn; rw [if_neg (by omega), if_pos h3]
    rw [hd]
    clear hd
    go_enter Tryz.func11, Tryz.ntmps11
    go_wp2_with fail
    go_returns
    exact ⟨rfl, rfl⟩
  · have hd : cn n b = 0 := by unfold cn; rw [if_neg (by omega), if_neg h3]
    rw [hd]
    clear hd
    go_enter Tryz.func11, Tryz.ntmps11
    go_wp2_with fail
    go_returns
    exact ⟨rfl, rfl⟩
abbrev u8s (l : List Int) : List Value := l.map (Value.int .u8)
set_option maxRecDepth 100000 in
set_option maxHeartbeats 4000000 in
theorem appendTo_any (n : Nat) (hn : Fit n) (v : Value) (xs : List Int) (B : Nat) (w : World) (hown : w.ownsRow B 5 1 v xs.length (u8s xs)) (hB : B ≤ w.heap.size) (hx : xs.length ≤ 100000) :
    Calls Tryz.prog 12 #[v, .int .i64 n] w fun e w' => ∃ v', e = .returned v' ∧ w'.ownsRow B 5 1 v' (xs ++ putL n).length (u8s (xs ++ putL n)) ∧ Below B w w' := by
  go_enter Tryz.func12, Tryz.ntmps12
  go_wp2_with fail
  go_loopw [0, 1] (fun v x wr => ∃ (y : Int) (m : Nat) (ns : List Int), x = .int .i64 y ∧ 0 ≤ y ∧ Hid (y = m ∧ xs ++ putL n = ns ++ putL m ∧ Fit m ∧ ns.length ≤ 100009) ∧ wr.ownsRow B 5 1 v ns.length (u8s ns) ∧ Below B w wr) (fun _ x _ => (intOf x).toNat)
  case atStart => exact ⟨n, n, xs, rfl, by omega, ⟨rfl, rfl, hn, by omega⟩, hown, Below.refl _ _⟩
  case round =>
    obtain ⟨y, m, ns, rfl, hy, H, hown, hb⟩ := hrel
    obtain ⟨i0, hi, hz0, hz1, hz2⟩ := info_parts u8Info
    have hns := H.out.2.2.2
    have hsz := hb.size
    by_cases hlt : y < 128
    · have k64 : IntKind.u8.wrap y = y := IntWalk.u8_in _ (by omega)
      go_wp2_with (at_builtin; refine wpList_append_own _ rfl _ _ 47 rfl B 5 i0 (.int .u8 0) 1 1 Tryz.underlying47 hi hz0 hz1 hz2 rfl (by decide) _ _ _ rfl (hown.alloc _) ⟨wr.heap.size, 0, none⟩ 1 1 [.int .u8 y] rfl rfl ?c1 ?c2 ?c3 ?c4 ?c5 ?_)
      case c1 => exact cell_one_new wr _ _
      case c2 => intro u hu; simp at hu; subst hu; rfl
      case c3 => unfold maxLen; omega
      case c4 => omega
      case c5 => simp; omega
      intro v' w2 hown' hgrow _
      have hb2 : Below B w w2 := (hb.alloc (by omega) _).grown hgrow (by simp; omega) (fun k hk => (hown.lt k hk).1)
      clear hgrow hi hz0 hz1 hz2
      go_wp2_with fail
      go_ret
      obtain ⟨q1, q2, _, _⟩ := H.out
      have q3 : putL m = [y] := by rw [putL_small (n := m) (by omega), q1]
      rw [q2, q3]
      exact ⟨_, rfl, by simpa using hown', hb2⟩
    · have k64 : IntKind.u8.wrap y = y % 256 := by rw [IntKind.wrap_u8]
      have ko : bits BinOp.or IntKind.u8 (y % 256) 128 = y % 128 + 128 := by rw [or128 (by omega) (by omega)]; omega
      go_wp2_with (at_builtin; refine wpList_append_own _ rfl _ _ 47 rfl B 5 i0 (.int .u8 0) 1 1 Tryz.underlying47 hi hz0 hz1 hz2 rfl (by decide) _ _ _ rfl (hown.alloc _) ⟨wr.heap.size, 0, none⟩ 1 1 [.int .u8 (y % 128 + 128)] rfl rfl (cell_one_new wr _ _) ?c2 ?c3 ?c4 ?c5 ?_)
      case c2 => first | rfl | (intro u hu; simp at hu; subst hu; rfl)
      case c3 => unfold maxLen; omega
      case c4 => omega
      case c5 => first | omega | (simp; omega)
      intro v' w2 hown' hgrow _
      have hb2 : Below B w w2 := (hb.alloc (by omega) _).grown hgrow (by simp; omega) (fun k hk => (hown.lt k hk).1)
      clear hgrow hi hz0 hz1 hz2
      go_wp2_with fail
      obtain ⟨q1, q2, q3, _⟩ := H.out
      have hsh : y / 128 = ((m / 128 : Nat) : Int) := by omega
      go_roundw
      case rel =>
        refine ⟨y / 128, m / 128, ns ++ [y % 128 + 128], ?_, by omega, ⟨hsh, ?_, ⟨by have := q3.lt; omega⟩, ?_⟩, ?_, hb2⟩
        · rfl
        · rw [q2, putL_more (n := m) (by omega), List.append_assoc]
          congr 2
          rw [q1]
          omega
        · have hl := congrArg List.length q2
          rw [List.length_append, List.length_append] at hl
          have hN := hn.lt
          have := putL_len 8 n (by have : (128 : Nat) ^ (8 + 1) = 9223372036854775808 := by decide
                                   omega)
          have := putL_pos m
          have h2 : 1 < (putL m).length := by
            rw [putL_more (n := m) (by omega), List.length_cons]
            have := putL_pos (m / 128)
            omega
          simp only [List.length_append, List.length_singleton]
          omega
        · simpa using hown'
      case measure => simp [intOf]; omega
/-- the bytes of a text -/
def bytesL (s : ByteArray) : List Int := s.data.toList.map fun b => (b.toNat : Int)
theorem bytesL_len (s : ByteArray) : (bytesL s).length = s.size := by
  unfold bytesL
  rw [List.length_map, Array.length_toList]
  rfl
theorem strCells_eq (s : ByteArray) : Go.Lib.strCells s = u8s (bytesL s) := by
  unfold Go.Lib.strCells u8s bytesL
  rw [List.map_map]
  rfl
theorem str_bytes (s : ByteArray) : strOfNums (bytesL s) = s := by
  apply ByteArray.ext
  apply Array.ext'
  rw [nums_list]
  simp [bytesL, List.map_map, Function.comp_def]
def numB (s : ByteArray) : List Int := putL s.size ++ bytesL s
def partL (n : Nat) (s : ByteArray) : List Int := putL n ++ numB s
set_option maxRecDepth 100000 in
set_option maxHeartbeats 4000000 in
theorem appendBytes_any (s : ByteArray) (hs : s.size ≤ 100000) (v : Value) (xs : List Int) (B : Nat) (w : World) (hown : w.ownsRow B 5 1 v xs.length (u8s xs)) (hB : B ≤ w.heap.size) (hx : xs.length ≤ 100000) :
    Calls Tryz.prog 21 #[v, .string s] w fun e w' => ∃ v', e = .returned v' ∧ w'.ownsRow B 5 1 v' (xs ++ numB s).length (u8s (xs ++ numB s)) ∧ Below B w w' := by
  have HO := hide hown
  have hl := putL_len 8 s.size (by have : (128 : Nat) ^ (8 + 1) = 9223372036854775808 := by decide
                                   omega)
  clear hown
  go_enter Tryz.func21, Tryz.ntmps21
  go_wp2_with fail
  refine (appendTo_any s.size ⟨by omega⟩ v xs B _ HO.out hB hx).mono ?_
  rintro e w1 ⟨v1, rfl, ho1, b1⟩
  have HO1 := hide ho1
  have hsz : (xs ++ putL s.size).length ≤ 100009 := by rw [List.length_append]; omega
  have hB1 : B ≤ w1.heap.size := Nat.le_trans hB b1.size
  obtain ⟨i0, hi, hz0, hz1, hz2⟩ := info_parts u8Info
  clear ho1
  go_wp2_with (at_builtin; refine Go.Lib.wpList_append_own_string _ rfl _ _ 47 9 rfl B 5 i0 Tryz.underlying47 Tryz.underlying9 hi hz0 hz1 hz2 _ _ _ rfl HO1.out s rfl ?c1 ?c2 ?c3 ?_)
  case c1 => unfold maxLen; omega
  case c2 => omega
  case c3 => exact hB1
  intro v' w2 hown' hgrow _
  have hb2 : Below B w w2 := b1.grown hgrow hB1 (fun k hk => (HO1.out.lt k hk).1)
  clear hgrow hi hz0 hz1 hz2
  go_wp2_with fail
  go_ret
  refine ⟨_, rfl, ?_, hb2⟩
  have e1 : (xs ++ numB s).length = (xs ++ putL s.size).length + s.size := by simp only [numB, List.length_append, bytesL_len]; omega
  have e2 : u8s (xs ++ numB s) = u8s (xs ++ putL s.size) ++ Go.Lib.strCells s := by rw [strCells_eq]; simp [numB, u8s]
  rw [e1, e2]
  show w2.ownsRow B 5 1 v' _ _
  simpa [u8s, List.map_append, List.length_append, List.append_assoc] using hown'
set_option maxRecDepth 100000 in
set_option maxHeartbeats 4000000 in
theorem appendPart_any (n : Nat) (hn : Fit n) (s : ByteArray) (hs : s.size ≤ 1000) (v : Value) (xs : List Int) (B : Nat) (w : World) (hown : w.ownsRow B 5 1 v xs.length (u8s xs)) (hB : B ≤ w.heap.size) (hx : xs.length ≤ 90000) :
    Calls Tryz.prog 13 #[v, .int .i64 n, .string s] w fun e w' => ∃ v', e = .returned v' ∧ w'.ownsRow B 5 1 v' (xs ++ partL n s).length (u8s (xs ++ partL n s)) ∧ Below B w w' := by
  have HO := hide hown
  have hl := putL_len 8 n (by have : (128 : Nat) ^ (8 + 1) = 9223372036854775808 := by decide
                              have := hn.lt
                              omega)
  clear hown
  go_enter Tryz.func13, Tryz.ntmps13
  go_wp2_with fail
  refine (appendTo_any n hn v xs B _ HO.out hB (by omega)).mono ?_
  rintro e w1 ⟨v1, rfl, ho1, b1⟩
  have HO1 := hide ho1
  have hB1 : B ≤ w1.heap.size := Nat.le_trans hB b1.size
  clear ho1
  go_wp2_with fail
  refine (appendBytes_any s (by omega) v1 (xs ++ putL n) B _ HO1.out hB1 (by rw [List.length_append]; omega)).mono ?_
  rintro e w2 ⟨v2, rfl, ho2, b2⟩
  have HO2 := hide ho2
  clear ho2
  go_wp2_with fail
  go_ret
  exact ⟨_, rfl, by have := HO2.out; rwa [List.append_assoc] at this, b1.trans b2⟩
end Go.Proofs.YtdkkblkbonjjgabGreatDoor.Tj
