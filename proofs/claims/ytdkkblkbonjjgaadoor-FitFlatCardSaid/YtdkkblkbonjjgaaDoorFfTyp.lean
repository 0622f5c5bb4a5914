/- What ShortType returns: some type, with its fields. No condition. -/
import Derived.Test.YtdkkblkbonjjgaaDoorFfTypA
import Derived.Test.YtdkkblkbonjjgaaDoorRegB
namespace Go.Proofs.YtdkkblkbonjjgaaDoor.Ff
open Go Go.RowKit Go.PlainAid
set_option maxRecDepth 100000 in
set_option maxHeartbeats 8000000 in
theorem st_step (n : Nat) (W0 : World) (IH : ∀ (m : Nat) (v : Typ) (x : Int) (w : World), m < n → TOk W0 m v.list → x = m + 1 → Below W0.heap.size W0 w → Calls Tryd.prog 4 #[.agg v.arr, .int .i64 x] w (STPost w))
    (v : Typ) (x : Int) (w : World) (hv : TOk W0 n v.list) (hx : x = n + 1) (hn : n < 100) (hb : Below W0.heap.size W0 w) : Calls Tryd.prog 4 #[.agg v.arr, .int .i64 x] w (STPost w) := by
  have HI := hide IH
  have HB := hide hb
  obtain ⟨v', e, hW, hR⟩ := hv.parts
  obtain rfl : v = v' := by
    cases v; cases v'; simp [Typ.list] at e; simp [e]
  have HW := hide hW
  have HR := hide hR
  obtain ⟨k, mn, mx, sc, A, la, ca, B, lb, cb, C, lc, cc⟩ := v
  clear IH hb hv e hR hW
  simp only at *
  have HX := hide hx
  clear hx
  show Calls Tryd.prog 4 #[.agg #[.int .i64 k, .int .i64 mn, .int .i64 mx, .int .i64 sc, .slice A la ca, .slice B lb cb, .slice C lc cc], .int .i64 x] w (STPost w)
  go_enter Tryd.func4, Tryd.ntmps4
  go_upto_block 0 with fail
  go_cut [5] (fun s5 wx => ∃ (A' : Option Addr) (n' c' : Nat), s5 = .slice A' n' c' ∧ TBoxes w wx ⟨k, mn, mx, sc, A, la, ca, B, lb, cb, C, lc, cc⟩)
  case first =>
    go_wp2_with fail
    go_loopw [5, 8] (fun s5 y wr => ∃ (j : Nat) (xs : List Value), j ≤ min la 6 ∧ y = .int .i64 j ∧ wr.ownsRow (w.heap.size + 2) 9 1 s5 j xs ∧ TBoxes w wr ⟨k, mn, mx, sc, A, la, ca, B, lb, cb, C, lc, cc⟩) (fun _ y _ => min la 6 - (intOf y).toNat)
    case atStart => exact ⟨0, [], Nat.zero_le _, rfl, World.ownsRow_nil _ _ _ _, TBoxes.new w ⟨k, mn, mx, sc, A, la, ca, B, lb, cb, C, lc, cc⟩⟩
    case round =>
      obtain ⟨j, xs, hj, rfl, hown, hbx⟩ := hrel
      have HBX := hide hbx
      have c4 : wr.cell? ⟨w.heap.size, 4, none⟩ = some (.slice A la ca) := hbx.v.cell 4
      by_cases hlt : j < min la 6
      · obtain ⟨g, off, rfl, hg, hc⟩ := HW.out (by omega)
        obtain ⟨cs, hcl, hcc, s, rfl, hs⟩ := hc j (by omega)
        have BW : Below W0.heap.size W0 wr := HB.out.trans (hbx.b.mono HB.out.size)
        have d0 : wr.cell? ⟨g, off + j, none⟩ = some (.string s) := (BW.cell (p := ⟨g, off + j, none⟩) hg).trans (by have := hcc 0 (by omega); rwa [Nat.mul_one] at this)
        have hbr2 : w.heap.size + 2 ≤ wr.heap.size := by have := hbx.r.lt; omega
        have hg2 : g < w.heap.size + 2 := by have := Nat.lt_of_lt_of_le hg HB.out.size; omega
        have hgr : g < wr.heap.size := by omega
        have hbr : w.heap.size < wr.heap.size := by omega
        have hw2 : w.heap.size < w.heap.size + 2 := by omega
        have HO := hide hown
        unfold maxLen at hs
        have m2 : (if 40 < (s.size : Int) then (40 : Int) else (s.size : Int)) = ((min s.size 40 : Nat) : Int) := by split <;> omega
        obtain ⟨ms, hms⟩ : ∃ m, min s.size 40 = m := ⟨_, rfl⟩
        rw [hms] at m2
        have hms' : (ms : Int) ≤ (s.size : Int) := by omega
        have t1 : (j : Int) < (la : Int) := by omega
        have t2 : (j : Int) < 6 := by omega
        have t4 : (0 : Int) ≤ (j : Int) := Int.natCast_nonneg _
        obtain ⟨i0, hi, hz0, hz1, hz2⟩ := info_parts strInfo
        clear hms hcc hcl BW hbx hown hc
        go_wp2_with fail
        go_region_held3 (fun w' => w'.cell? ⟨w.heap.size, 4, none⟩ = some (.slice (some ⟨g, off, none⟩) la ca) ∧ w'.cell? ⟨g, off + j, none⟩ = some (.string s))
          (first
            | go_keep
            | with_reducible exact keepB hb3 hg2 hw2 c4 d0)
          (first
            | (fail "no")
            | (refine step_append_lies _ (by rfl) _ _ _ (by rfl) (w.heap.size + 2) 9 i0 _ 1 16 Tryd.underlying22 hi hz0 hz1 hz2 rfl (by omega) u5 j xs (by rfl) (by first | exact HO.out.alloc _ | exact (HO.out.alloc _).drew)
                ⟨wr.heap.size, 0, none⟩ 1 1 [.string (s.extract 0 ms)] (by rfl) (by rfl) (World.news_of_block (cs := #[.string (s.extract 0 ms)]) (t := 9) (fr := (0, 0)) (heap_alloc_new wr _)) (by simp [Value.oneCell'])
                (by omega) (by unfold maxLen; omega) (by omega) (by simp; omega) (wr.heap.size + 1) (by simp) ?_; intro gg cap' w2 hown1 hgrow hat hlt1; have BX2 := hide (HBX.out.grown hgrow (by first | with_reducible exact new1 _ _ | with_reducible exact new1d _ _) (fun q e => (HO.out.lt q e).1)); have hb3 : Below (w.heap.size + 2) wr w2 := below_grown hbr2 hgrow (by first | with_reducible exact new1 _ _ | with_reducible exact new1d _ _) (fun q e => (HO.out.lt q e).1)))
        all_goals
          have HO2 := hide hown1
          clear hown1 hgrow hat hb3 hi hz0 hz1 hz2
          go_wp2_with fail
          go_roundw
          case rel => exact ⟨j + 1, _, by omega, by go_num, HO2.out, BX2.out⟩
          case measure => simp [intOf]; omega
      · have HO := hide hown
        obtain ⟨A', c', rfl⟩ := own_slice hown
        have t4 : (0 : Int) ≤ (j : Int) := Int.natCast_nonneg _
        have hc' : ¬ (j : Int) < (la : Int) ∨ ((j : Int) < (la : Int) ∧ ¬ (j : Int) < 6) := by omega
        clear hj hlt hown hbx
        rcases hc' with h1 | ⟨h1, h2⟩
        · go_wp2_with fail
          go_meet
          exact ⟨_, _, _, rfl, HBX.out⟩
        · go_wp2_with fail
          go_meet
          exact ⟨_, _, _, rfl, HBX.out⟩
  case rest =>
    obtain ⟨A5, n5, c5', rfl, hbx⟩ := hcut
    have HBX := hide hbx
    clear hbx
    go_upto_block 2 with fail
    go_cut [6] (fun s6 wx => ∃ (A' : Option Addr) (n' c' : Nat), s6 = .slice A' n' c' ∧ TBoxes w wx ⟨k, mn, mx, sc, A, la, ca, B, lb, cb, C, lc, cc⟩)
    case first =>
      go_wp2_with fail
      go_loopw [6, 9] (fun s6 y wr => ∃ (j : Nat) (xs : List Value), j ≤ rounds n lb 2 ∧ y = .int .i64 j ∧ wr.ownsRow (w.heap.size + 2) 26 7 s6 j xs ∧ TBoxes w wr ⟨k, mn, mx, sc, A, la, ca, B, lb, cb, C, lc, cc⟩) (fun _ y _ => rounds n lb 2 - (intOf y).toNat)
      case atStart => exact ⟨0, [], Nat.zero_le _, rfl, World.ownsRow_nil _ _ _ _, HBX.out⟩
      case round =>
        obtain ⟨j, xs, hj, rfl, hown, hbx⟩ := hrel
        have HBX := hide hbx
        have c5 : wr.cell? ⟨w.heap.size, 5, none⟩ = some (.slice B lb cb) := hbx.v.cell 5
        have hx := HX.out
        by_cases hlt : j < rounds n lb 2
        · obtain ⟨q1, q2, q3⟩ := rounds_in hlt
          obtain ⟨g, off, rfl, hg, hc⟩ := (HR.out q1).1 (by omega)
          obtain ⟨cs, hcl, hcc, hP⟩ := hc j q2
          obtain ⟨v, rfl, _, _⟩ := hP.parts
          have HP := hide hP
          obtain ⟨k', mn', mx', sc', A', la', ca', B', lb', cb', C', lc', cc'⟩ := v
          have BW : Below W0.heap.size W0 wr := HB.out.trans (hbx.b.mono HB.out.size)
          have d0 : wr.cell? ⟨g, off + j * 7, none⟩ = some (.int .i64 k') := (BW.cell (p := ⟨g, off + j * 7, none⟩) hg).trans (hcc 0 (by omega))
          have d1 : wr.cell? ⟨g, off + j * 7 + 1, none⟩ = some (.int .i64 mn') := (BW.cell (p := ⟨g, off + j * 7 + 1, none⟩) hg).trans (hcc 1 (by omega))
          have d2 : wr.cell? ⟨g, off + j * 7 + 2, none⟩ = some (.int .i64 mx') := (BW.cell (p := ⟨g, off + j * 7 + 2, none⟩) hg).trans (hcc 2 (by omega))
          have d3 : wr.cell? ⟨g, off + j * 7 + 3, none⟩ = some (.int .i64 sc') := (BW.cell (p := ⟨g, off + j * 7 + 3, none⟩) hg).trans (hcc 3 (by omega))
          have d4 : wr.cell? ⟨g, off + j * 7 + 4, none⟩ = some (.slice A' la' ca') := (BW.cell (p := ⟨g, off + j * 7 + 4, none⟩) hg).trans (hcc 4 (by omega))
          have d5 : wr.cell? ⟨g, off + j * 7 + 5, none⟩ = some (.slice B' lb' cb') := (BW.cell (p := ⟨g, off + j * 7 + 5, none⟩) hg).trans (hcc 5 (by omega))
          have d6 : wr.cell? ⟨g, off + j * 7 + 6, none⟩ = some (.slice C' lc' cc') := (BW.cell (p := ⟨g, off + j * 7 + 6, none⟩) hg).trans (hcc 6 (by omega))
          have HBW := hide BW
          have HO := hide hown
          have t1 : (j : Int) < (lb : Int) := by omega
          have t2 : (j : Int) < 2 := by omega
          have t3 : 1 < x := by omega
          have t4 : (0 : Int) ≤ (j : Int) := Int.natCast_nonneg _
          have t5 : x ≤ 100 := by omega
          have HQ : Hid (x - 1 = ((n - 1 : Nat) : Int) + 1) := hide (by omega)
          clear hcc hcl hP BW hbx hown hx hc
          go_wp2_with fail
          refine (HI.out (n - 1) ⟨k', mn', mx', sc', A', la', ca', B', lb', cb', C', lc', cc'⟩ _ _ (by omega) HP.out HQ.out HBW.out).mono ?_
          rintro e w1 ⟨v1, l1, rfl, -, -, -, b1⟩
          have OB := hide (own_below HO.out b1)
          have BX := hide (HBX.out.below b1)
          have hs1 : w.heap.size + 2 ≤ w1.heap.size := by have := BX.out.r.lt; omega
          obtain ⟨i0, hi, hz0, hz1, hz2⟩ := info_parts typInfo
          obtain ⟨k1, mn1, mx1, sc1, A1, la1, ca1, B1, lb1, cb1, C1, lc1, cc1⟩ := v1
          clear d0 d1 d2 d3 d4 d5 d6 c5 b1 HBW HBX HO
          go_wp2_with (at_builtin; refine wpList_append_own _ rfl _ _ 23 rfl (w.heap.size + 2) 26 i0 (.agg #[.int .i64 0, .int .i64 0, .int .i64 0, .int .i64 0, .slice none 0 0, .slice none 0 0, .slice none 0 0]) 7 104 Tryd.underlying23 hi hz0 hz1 hz2 rfl (by decide) _ _ _ rfl (OB.out.alloc _) ⟨w1.heap.size, 0, none⟩ 1 1 [.int .i64 k1, .int .i64 mn1, .int .i64 mx1, .int .i64 sc1, .slice A1 la1 ca1, .slice B1 lb1 cb1, .slice C1 lc1 cc1] rfl rfl ?c1 ?c2 ?c3 ?c4 ?c5 ?_)
          case c1 => exact World.news_of_block (cs := #[.int .i64 k1, .int .i64 mn1, .int .i64 mx1, .int .i64 sc1, .slice A1 la1 ca1, .slice B1 lb1 cb1, .slice C1 lc1 cc1]) (heap_alloc_new w1 _)
          case c2 => simp [Value.oneCell']
          case c3 => unfold maxLen; omega
          case c4 => omega
          case c5 => simp; omega
          intro v' w2 hown' hgrow _
          have BX2 := hide (BX.out.grown hgrow (new1 _ _) (fun q e => (OB.out.lt q e).1))
          have HO2 := hide hown'
          clear hown' hgrow hi hz0 hz1 hz2
          go_wp2_with fail
          go_roundw
          case rel => exact ⟨j + 1, _, by omega, by go_num, HO2.out, BX2.out⟩
          case measure => simp [intOf]; omega
        · have hj' : j = rounds n lb 2 := by omega
          obtain ⟨A', c', rfl⟩ := own_slice hown
          have t4 : (0 : Int) ≤ (j : Int) := Int.natCast_nonneg _
          have hc := rounds_out n lb 2
          rw [← hj'] at hc
          have hc' : ¬ (j : Int) < (lb : Int) ∨ ((j : Int) < (lb : Int) ∧ ¬ (j : Int) < 2) ∨ ((j : Int) < (lb : Int) ∧ (j : Int) < 2 ∧ ¬ 1 < x) := by omega
          clear hc hj hj' hlt hx hown hbx
          rcases hc' with h1 | ⟨h1, h2⟩ | ⟨h1, h2, h3⟩
          · go_wp2_with fail
            go_meet
            exact ⟨_, _, _, rfl, HBX.out⟩
          · go_wp2_with fail
            go_meet
            exact ⟨_, _, _, rfl, HBX.out⟩
          · go_wp2_with fail
            go_meet
            exact ⟨_, _, _, rfl, HBX.out⟩
    case rest =>
      obtain ⟨A6, n6, c6', rfl, hbx⟩ := hcut
      have HBX := hide hbx
      clear hbx
      go_upto_block 4 with fail
      go_cut [7] (fun s7 wx => ∃ (C' : Option Addr) (c' : Nat) (l : List Tf), s7 = .slice C' l.length c' ∧ l.length ≤ 6 ∧ TRow (w.heap.size + 2) wx C' l ∧ TBoxes w wx ⟨k, mn, mx, sc, A, la, ca, B, lb, cb, C, lc, cc⟩)
      case first =>
        go_wp2_with fail
        go_loopw [7, 10] (fun s7 y wr => ∃ (j : Nat) (l : List Tf), l.length = j ∧ j ≤ rounds n lc 6 ∧ y = .int .i64 j ∧ wr.ownsRow (w.heap.size + 2) 30 11 s7 j (l.flatMap Tf.list) ∧ TBoxes w wr ⟨k, mn, mx, sc, A, la, ca, B, lb, cb, C, lc, cc⟩) (fun _ y _ => rounds n lc 6 - (intOf y).toNat)
        case atStart => exact ⟨0, [], rfl, Nat.zero_le _, rfl, World.ownsRow_nil _ _ _ _, HBX.out⟩
        case round =>
          obtain ⟨j, l, hl, hj, rfl, hown, hbx⟩ := hrel
          have HBX := hide hbx
          have c6 : wr.cell? ⟨w.heap.size, 6, none⟩ = some (.slice C lc cc) := hbx.v.cell 6
          have hx := HX.out
          by_cases hlt : j < rounds n lc 6
          · obtain ⟨W1, rfl⟩ : ∃ W, W = wr := ⟨_, rfl⟩
            obtain ⟨q1, q2, q3⟩ := rounds_in hlt
            obtain ⟨g, off, rfl, hg, hc⟩ := (HR.out q1).2 (by omega)
            obtain ⟨cs, hcl, hcc, nu, ne, nm, ts, D, ld, cd, rfl, hnm, _, _, hP, hD⟩ := hc j q2
            obtain ⟨v, rfl, _, _⟩ := hP.parts
            have HP := hide hP
            have HD := hide hD
            obtain ⟨k', mn', mx', sc', A', la', ca', B', lb', cb', C', lc', cc'⟩ := v
            have BW : Below W0.heap.size W0 W1 := HB.out.trans (hbx.b.mono HB.out.size)
            have d0 : W1.cell? ⟨g, off + j * 11, none⟩ = some (.int .i64 nu) := (BW.cell (p := ⟨g, off + j * 11, none⟩) hg).trans (hcc 0 (by omega))
            have d1 : W1.cell? ⟨g, off + j * 11 + 1, none⟩ = some (.string nm) := (BW.cell (p := ⟨g, off + j * 11 + 1, none⟩) hg).trans (hcc 1 (by omega))
            have d2 : W1.cell? ⟨g, off + j * 11 + 2, none⟩ = some (.int .i64 ne) := (BW.cell (p := ⟨g, off + j * 11 + 2, none⟩) hg).trans (hcc 2 (by omega))
            have d3 : W1.cell? ⟨g, off + j * 11 + 3, none⟩ = some (.int .i64 k') := (BW.cell (p := ⟨g, off + j * 11 + 3, none⟩) hg).trans (hcc 3 (by omega))
            have d4 : W1.cell? ⟨g, off + j * 11 + 4, none⟩ = some (.int .i64 mn') := (BW.cell (p := ⟨g, off + j * 11 + 4, none⟩) hg).trans (hcc 4 (by omega))
            have d5 : W1.cell? ⟨g, off + j * 11 + 5, none⟩ = some (.int .i64 mx') := (BW.cell (p := ⟨g, off + j * 11 + 5, none⟩) hg).trans (hcc 5 (by omega))
            have d6 : W1.cell? ⟨g, off + j * 11 + 6, none⟩ = some (.int .i64 sc') := (BW.cell (p := ⟨g, off + j * 11 + 6, none⟩) hg).trans (hcc 6 (by omega))
            have d7 : W1.cell? ⟨g, off + j * 11 + 7, none⟩ = some (.slice A' la' ca') := (BW.cell (p := ⟨g, off + j * 11 + 7, none⟩) hg).trans (hcc 7 (by omega))
            have d8 : W1.cell? ⟨g, off + j * 11 + 8, none⟩ = some (.slice B' lb' cb') := (BW.cell (p := ⟨g, off + j * 11 + 8, none⟩) hg).trans (hcc 8 (by omega))
            have d9 : W1.cell? ⟨g, off + j * 11 + 9, none⟩ = some (.slice C' lc' cc') := (BW.cell (p := ⟨g, off + j * 11 + 9, none⟩) hg).trans (hcc 9 (by omega))
            have d10 : W1.cell? ⟨g, off + j * 11 + 10, none⟩ = some (.slice D ld cd) := (BW.cell (p := ⟨g, off + j * 11 + 10, none⟩) hg).trans (hcc 10 (by omega))
            have HBW := hide BW
            have HO := hide hown
            have HL := hide hl
            have t1 : (j : Int) < (lc : Int) := by omega
            have t2 : (j : Int) < 6 := by omega
            have t3 : 1 < x := by omega
            have t4 : (0 : Int) ≤ (j : Int) := Int.natCast_nonneg _
            have t5 : x ≤ 100 := by omega
            have t6 : IntKind.i64.wrap (x - 1) = x - 1 := IntWalk.i64_in _ (by omega)
            have HQ : Hid (x - 1 = ((n - 1 : Nat) : Int) + 1) := hide (by omega)
            unfold maxLen at hnm
            have m2 : (if 40 < (nm.size : Int) then (40 : Int) else (nm.size : Int)) = ((min nm.size 40 : Nat) : Int) := by split <;> omega
            obtain ⟨mm, hmm⟩ : ∃ m, min nm.size 40 = m := ⟨_, rfl⟩
            rw [hmm] at m2
            have hmm' : (mm : Int) ≤ (nm.size : Int) := by omega
            have hw2 : w.heap.size + 2 ≤ W1.heap.size := by have := hbx.r.lt; omega
            clear hmm hcc hcl hP hD BW hbx hown hx hc hl
            go_upto_block 6 with fail
            go_cut [12] from 67 to 126 (fun s12 w0 => (∃ (D' : Option Addr) (nd cd' : Nat), s12 = .slice D' nd cd') ∧ Holds w0 W1.heap.size 30 #[.int .i64 nu, .string nm, .int .i64 ne, .int .i64 k', .int .i64 mn', .int .i64 mx', .int .i64 sc', .slice A' la' ca', .slice B' lb' cb', .slice C' lc' cc', .slice D ld cd] ∧ Below W1.heap.size W1 w0)
            case first =>
              have hnew := heap_alloc_new W1 (Obj.cells #[.int .i64 nu, .string nm, .int .i64 ne, .int .i64 k', .int .i64 mn', .int .i64 mx', .int .i64 sc', .slice A' la' ca', .slice B' lb' cb', .slice C' lc' cc', .slice D ld cd] 30)
              have HN := hide hnew
              clear hnew d0 d1 d2 d3 d4 d5 d6 d7 d8 d9 d10
              go_wp2_with fail
              go_loopw [12, 13] (fun s12 y w4 => ∃ (q : Nat) (xs4 : List Value), q ≤ min ld 2 ∧ y = .int .i64 q ∧ w4.ownsRow (W1.heap.size + 1) 35 6 s12 q xs4 ∧ Holds w4 W1.heap.size 30 #[.int .i64 nu, .string nm, .int .i64 ne, .int .i64 k', .int .i64 mn', .int .i64 mx', .int .i64 sc', .slice A' la' ca', .slice B' lb' cb', .slice C' lc' cc', .slice D ld cd] ∧ Below W1.heap.size W1 w4) (fun _ y _ => min ld 2 - (intOf y).toNat)
              case atStart => exact ⟨0, [], Nat.zero_le _, rfl, World.ownsRow_nil _ _ _ _, HN.out, new1 _ _⟩
              case round =>
                obtain ⟨q, xs4, hq, rfl, ho4, hh4, hb4⟩ := hrel
                have HH4 := hide hh4
                have HB4 := hide hb4
                have HO4 := hide ho4
                have c10 : wr.cell? ⟨W1.heap.size, 10, none⟩ = some (.slice D ld cd) := hh4.cell 10
                have t7 : (0 : Int) ≤ (q : Int) := Int.natCast_nonneg _
                by_cases hlt4 : q < min ld 2
                · obtain ⟨g4, off4, rfl, hg4, hc4⟩ := HD.out (by omega)
                  obtain ⟨cs4, hcl4, hcc4, hP4⟩ := hc4 q (by omega)
                  obtain ⟨v4, rfl, _, _⟩ := hP4.parts
                  have HP4 := hide hP4
                  obtain ⟨k4, i4, sc4, tt4, A4, la4, ca4, B4, lb4, cb4⟩ := v4
                  have BW4 : Below W0.heap.size W0 wr := HBW.out.trans (hb4.mono HBW.out.size)
                  have z0 : wr.cell? ⟨g4, off4 + q * 6, none⟩ = some (.int .i64 k4) := (BW4.cell (p := ⟨g4, off4 + q * 6, none⟩) hg4).trans (hcc4 0 (by omega))
                  have z1 : wr.cell? ⟨g4, off4 + q * 6 + 1, none⟩ = some (.int .i64 i4) := (BW4.cell (p := ⟨g4, off4 + q * 6 + 1, none⟩) hg4).trans (hcc4 1 (by omega))
                  have z2 : wr.cell? ⟨g4, off4 + q * 6 + 2, none⟩ = some (.int .i64 sc4) := (BW4.cell (p := ⟨g4, off4 + q * 6 + 2, none⟩) hg4).trans (hcc4 2 (by omega))
                  have z3 : wr.cell? ⟨g4, off4 + q * 6 + 3, none⟩ = some (.string tt4) := (BW4.cell (p := ⟨g4, off4 + q * 6 + 3, none⟩) hg4).trans (hcc4 3 (by omega))
                  have z4 : wr.cell? ⟨g4, off4 + q * 6 + 4, none⟩ = some (.slice A4 la4 ca4) := (BW4.cell (p := ⟨g4, off4 + q * 6 + 4, none⟩) hg4).trans (hcc4 4 (by omega))
                  have z5 : wr.cell? ⟨g4, off4 + q * 6 + 5, none⟩ = some (.slice B4 lb4 cb4) := (BW4.cell (p := ⟨g4, off4 + q * 6 + 5, none⟩) hg4).trans (hcc4 5 (by omega))
                  have HBW4 := hide BW4
                  have t8 : (q : Int) < (ld : Int) := by omega
                  have t9 : (q : Int) < 2 := by omega
                  have hW1 : W1.heap.size + 1 ≤ wr.heap.size := by have := hh4.lt; omega
                  clear hcc4 hcl4 hP4 BW4 hc4 ho4 hh4 hb4
                  go_wp2_with fail
                  refine (shortValue_any W0 2 ⟨k4, i4, sc4, tt4, A4, la4, ca4, B4, lb4, cb4⟩ 3 _ (by omega) HP4.out (by rfl) HBW4.out).mono ?_
                  rintro e w5 ⟨v1, rfl, b1⟩
                  have OB := hide (own_below HO4.out b1)
                  have HX5 := hide (HH4.out.below b1)
                  have BX5 : Hid (Below W1.heap.size W1 w5) := hide (below_step HB4.out b1)
                  have hs1 : W1.heap.size + 1 ≤ w5.heap.size := by have := b1.size; omega
                  obtain ⟨i0, hi, hz0, hz1, hz2⟩ := info_parts valInfo
                  obtain ⟨k1, i1, sc1, t1', A1, la1, ca1, B1, lb1, cb1⟩ := v1
                  clear z0 z1 z2 z3 z4 z5 c10 b1 HBW4 HB4 HH4 HO4
                  go_wp2_with (at_builtin; refine wpList_append_own _ rfl _ _ 28 rfl (W1.heap.size + 1) 35 i0 (.agg #[.int .i64 0, .int .i64 0, .int .i64 0, .string ⟨#[]⟩, .slice none 0 0, .slice none 0 0]) 6 88 Tryd.underlying28 hi hz0 hz1 hz2 rfl (by decide) _ _ _ rfl (OB.out.alloc _) ⟨w5.heap.size, 0, none⟩ 1 1 [.int .i64 k1, .int .i64 i1, .int .i64 sc1, .string t1', .slice A1 la1 ca1, .slice B1 lb1 cb1] rfl rfl ?c1 ?c2 ?c3 ?c4 ?c5 ?_)
                  case c1 => exact World.news_of_block (cs := #[.int .i64 k1, .int .i64 i1, .int .i64 sc1, .string t1', .slice A1 la1 ca1, .slice B1 lb1 cb1]) (heap_alloc_new w5 _)
                  case c2 => simp [Value.oneCell']
                  case c3 => unfold maxLen; omega
                  case c4 => omega
                  case c5 => simp; omega
                  intro v' w6 hown' hgrow _
                  have HH6 := hide (Holds.grown (HX5.out.alloc _) hgrow (fun e => by have := (OB.out.lt _ e.symm).1; omega))
                  have HB6 : Hid (Below W1.heap.size W1 w6) := hide ((BX5.out.alloc (by omega) _).grown hgrow (by simp; omega) (fun q e => by have := (OB.out.lt q e).1; omega))
                  have HO6 := hide hown'
                  clear hown' hgrow hi hz0 hz1 hz2
                  go_wp2_with fail
                  go_roundw
                  case rel => exact ⟨q + 1, _, by omega, by go_num, HO6.out, HH6.out, HB6.out⟩
                  case measure => simp [intOf]; omega
                · obtain ⟨A'', c'', rfl⟩ := own_slice ho4
                  have hc' : ¬ (q : Int) < (ld : Int) ∨ ((q : Int) < (ld : Int) ∧ ¬ (q : Int) < 2) := by omega
                  clear hq hlt4 ho4 hh4 hb4
                  rcases hc' with h1 | ⟨h1, h2⟩
                  · go_wp2_with fail
                    go_meet
                    exact ⟨⟨_, _, _, rfl⟩, HH4.out, HB4.out⟩
                  · go_wp2_with fail
                    go_meet
                    exact ⟨⟨_, _, _, rfl⟩, HH4.out, HB4.out⟩
            case rest =>
              obtain ⟨⟨D', nd, cd', rfl⟩, hH, hB4⟩ := hcut
              obtain ⟨W4, rfl⟩ : ∃ W, W = wc := ⟨_, rfl⟩
              clear d0 d1 d2 d3 d4 d5 d6 d7 d8 d9 d10 c6
              have hB5 : Below W0.heap.size W0 W4 := HBW.out.trans (hB4.mono HBW.out.size)
              have HB5 := hide hB5
              have HH := hide hH
              have HB4 := hide hB4
              clear hB5 hB4
              go_upto_region 21 with fail
              go_cut [] from 67 to 126 (fun w0 => ∃ f2 : Tf, Holds w0 W1.heap.size 30 f2.arr ∧ Below W1.heap.size W1 w0)
              case first =>
                obtain ⟨h0, h1, h2, h3, h4, h5, h6, h7, h8, h9, h10⟩ := cells11 (f := ⟨nu, nm, ne, ⟨k', mn', mx', sc', A', la', ca', B', lb', cb', C', lc', cc'⟩, D, ld, cd⟩) hH
                dsimp only at h0 h1 h2 h3 h4 h5 h6 h7 h8 h9 h10
                clear hH
                refine RegB.begin (S := fun w' => w'.cell? ⟨W1.heap.size, 1, none⟩ = some (.string nm) ∧ w'.cell? ⟨W1.heap.size, 3, none⟩ = some (.int .i64 k') ∧ w'.cell? ⟨W1.heap.size, 4, none⟩ = some (.int .i64 mn') ∧ w'.cell? ⟨W1.heap.size, 5, none⟩ = some (.int .i64 mx') ∧ w'.cell? ⟨W1.heap.size, 6, none⟩ = some (.int .i64 sc') ∧ w'.cell? ⟨W1.heap.size, 7, none⟩ = some (.slice A' la' ca') ∧ w'.cell? ⟨W1.heap.size, 8, none⟩ = some (.slice B' lb' cb') ∧ w'.cell? ⟨W1.heap.size, 9, none⟩ = some (.slice C' lc' cc')) (B := fun i => decide (i ≤ 8) || i == 11) (by kernel_rfl) ?_
                have hS0 : (fun w' => w'.cell? ⟨W1.heap.size, 1, none⟩ = some (.string nm) ∧ w'.cell? ⟨W1.heap.size, 3, none⟩ = some (.int .i64 k') ∧ w'.cell? ⟨W1.heap.size, 4, none⟩ = some (.int .i64 mn') ∧ w'.cell? ⟨W1.heap.size, 5, none⟩ = some (.int .i64 mx') ∧ w'.cell? ⟨W1.heap.size, 6, none⟩ = some (.int .i64 sc') ∧ w'.cell? ⟨W1.heap.size, 7, none⟩ = some (.slice A' la' ca') ∧ w'.cell? ⟨W1.heap.size, 8, none⟩ = some (.slice B' lb' cb') ∧ w'.cell? ⟨W1.heap.size, 9, none⟩ = some (.slice C' lc' cc')) W4.drew := ⟨h1, h3, h4, h5, h6, h7, h8, h9⟩
                clear h0 h1 h2 h3 h4 h5 h6 h7 h8 h9 h10
                refine RegB.take0 (i := 12) (oi := { dst := some 119, op := Op.move (Operand.tmp 12), type := 28, pos := "law.go:64", after := #[{ on := 16, ground := Ground.gcOnly Departure.lateStores }], guard := none }) (v := ?_) rfl (by kernel_rfl) (by kernel_rfl) (by kernel_rfl) (by kernel_rfl) (fun _ _ _ h => h) (Or.inl ⟨by rfl, ?_⟩) ?_
                rotate_left
                · intro w9 _
                  go_simp
                  try with_reducible rfl
                try simp only [Act.put, List.setIfInBounds_toArray, List.set_cons_zero, List.set_cons_succ]
                refine RegB.take0 (i := 9) (oi := { dst := some 116, op := Op.move (Operand.tmp 1), type := 3, pos := "law.go:64", after := #[], guard := none }) (v := ?_) rfl (by kernel_rfl) (by kernel_rfl) (by kernel_rfl) (by kernel_rfl) (fun _ _ _ h => h) (Or.inl ⟨by rfl, ?_⟩) ?_
                rotate_left
                · intro w9 _
                  go_simp
                  try with_reducible rfl
                try simp only [Act.put, List.setIfInBounds_toArray, List.set_cons_zero, List.set_cons_succ]
                refine RegB.take0 (i := 10) (oi := { dst := some 117, op := Op.binOp BinOp.sub 3 (Operand.tmp 116) (Operand.const (Value.int IntKind.i64 1)) 3, type := 3, pos := "law.go:64", after := #[{ on := 9, ground := Ground.data }], guard := none }) (v := ?_) rfl (by kernel_rfl) (by kernel_rfl) (by kernel_rfl) (by kernel_rfl) (fun _ _ _ h => h) (Or.inl ⟨by rfl, ?_⟩) ?_
                rotate_left
                · intro w9 _
                  go_simp
                  try with_reducible rfl
                try simp only [Act.put, List.setIfInBounds_toArray, List.set_cons_zero, List.set_cons_succ]
                refine RegB.take (i := 0) (oi := { dst := some 107, op := Op.fieldAddr 30 (Operand.tmp 11) 1, type := 0, pos := "law.go:64", after := #[], guard := none }) (v := ?_) rfl (by kernel_rfl) (by kernel_rfl) (by kernel_rfl) (by kernel_rfl) (fun _ _ _ h => h) (Or.inl ⟨by rfl, ?_⟩) hS0 ?_
                rotate_left
                · intro w9 hw9
                  obtain ⟨g1, g3, g4, g5, g6, g7, g8, g9⟩ := hw9
                  go_simp
                  try with_reducible rfl
                try simp only [Act.put, List.setIfInBounds_toArray, List.set_cons_zero, List.set_cons_succ]
                refine RegB.take (i := 1) (oi := { dst := some 108, op := Op.load 9 (Operand.tmp 107), type := 9, pos := "law.go:64", after := #[{ on := 0, ground := Ground.data }], guard := none }) (v := ?_) rfl (by kernel_rfl) (by kernel_rfl) (by kernel_rfl) (by kernel_rfl) (fun _ _ _ h => h) (Or.inl ⟨by rfl, ?_⟩) hS0 ?_
                rotate_left
                · intro w9 hw9
                  obtain ⟨g1, g3, g4, g5, g6, g7, g8, g9⟩ := hw9
                  go_simp
                  try with_reducible rfl
                try simp only [Act.put, List.setIfInBounds_toArray, List.set_cons_zero, List.set_cons_succ]
                refine RegB.take (i := 2) (oi := { dst := some 109, op := Op.fieldAddr 30 (Operand.tmp 11) 1, type := 0, pos := "law.go:64", after := #[], guard := none }) (v := ?_) rfl (by kernel_rfl) (by kernel_rfl) (by kernel_rfl) (by kernel_rfl) (fun _ _ _ h => h) (Or.inl ⟨by rfl, ?_⟩) hS0 ?_
                rotate_left
                · intro w9 hw9
                  obtain ⟨g1, g3, g4, g5, g6, g7, g8, g9⟩ := hw9
                  go_simp
                  try with_reducible rfl
                try simp only [Act.put, List.setIfInBounds_toArray, List.set_cons_zero, List.set_cons_succ]
                refine RegB.take (i := 3) (oi := { dst := some 110, op := Op.load 9 (Operand.tmp 109), type := 9, pos := "law.go:64", after := #[{ on := 2, ground := Ground.data }], guard := none }) (v := ?_) rfl (by kernel_rfl) (by kernel_rfl) (by kernel_rfl) (by kernel_rfl) (fun _ _ _ h => h) (Or.inl ⟨by rfl, ?_⟩) hS0 ?_
                rotate_left
                · intro w9 hw9
                  obtain ⟨g1, g3, g4, g5, g6, g7, g8, g9⟩ := hw9
                  go_simp
                  try with_reducible rfl
                try simp only [Act.put, List.setIfInBounds_toArray, List.set_cons_zero, List.set_cons_succ]
                refine RegB.take (i := 4) (oi := { dst := some 111, op := Op.call { callee := Callee.builtin Builtin.len, args := #[Operand.tmp 110], argTypes := #[9] }, type := 3, pos := "law.go:64", after := #[{ on := 3, ground := Ground.data }], guard := none }) (v := ?_) rfl (by kernel_rfl) (by kernel_rfl) (by kernel_rfl) (by kernel_rfl) (fun _ _ _ h => h) (Or.inl ⟨by rfl, ?_⟩) hS0 ?_
                rotate_left
                · intro w9 hw9
                  obtain ⟨g1, g3, g4, g5, g6, g7, g8, g9⟩ := hw9
                  go_simp
                  try with_reducible rfl
                try simp only [Act.put, List.setIfInBounds_toArray, List.set_cons_zero, List.set_cons_succ]
                refine RegB.take (i := 5) (oi := { dst := some 112, op := Op.call { callee := Callee.builtin Builtin.min, args := #[Operand.tmp 111, Operand.const (Value.int IntKind.i64 40)], argTypes := #[3, 3] }, type := 3, pos := "law.go:64", after := #[{ on := 4, ground := Ground.data }], guard := none }) (v := ?_) rfl (by kernel_rfl) (by kernel_rfl) (by kernel_rfl) (by kernel_rfl) (fun _ _ _ h => h) (Or.inl ⟨by rfl, ?_⟩) hS0 ?_
                rotate_left
                · intro w9 hw9
                  obtain ⟨g1, g3, g4, g5, g6, g7, g8, g9⟩ := hw9
                  go_simp
                  try with_reducible rfl
                try simp only [Act.put, List.setIfInBounds_toArray, List.set_cons_zero, List.set_cons_succ]
                refine RegB.take (i := 6) (oi := { dst := some 113, op := Op.slice 9 (Operand.tmp 108) none (some (Operand.tmp 112)) none, type := 9, pos := "law.go:64", after := #[{ on := 1, ground := Ground.data }, { on := 5, ground := Ground.data }], guard := none }) (v := ?_) rfl (by kernel_rfl) (by kernel_rfl) (by kernel_rfl) (by kernel_rfl) (fun _ _ _ h => h) (Or.inl ⟨by rfl, ?_⟩) hS0 ?_
                rotate_left
                · intro w9 hw9
                  obtain ⟨g1, g3, g4, g5, g6, g7, g8, g9⟩ := hw9
                  go_simp
                  try with_reducible rfl
                try simp only [Act.put, List.setIfInBounds_toArray, List.set_cons_zero, List.set_cons_succ]
                refine RegB.take (i := 7) (oi := { dst := some 114, op := Op.fieldAddr 30 (Operand.tmp 11) 3, type := 0, pos := "law.go:64", after := #[], guard := none }) (v := ?_) rfl (by kernel_rfl) (by kernel_rfl) (by kernel_rfl) (by kernel_rfl) (fun _ _ _ h => h) (Or.inl ⟨by rfl, ?_⟩) hS0 ?_
                rotate_left
                · intro w9 hw9
                  obtain ⟨g1, g3, g4, g5, g6, g7, g8, g9⟩ := hw9
                  go_simp
                  try with_reducible rfl
                try simp only [Act.put, List.setIfInBounds_toArray, List.set_cons_zero, List.set_cons_succ]
                refine RegB.take (i := 8) (oi := { dst := some 115, op := Op.load 26 (Operand.tmp 114), type := 26, pos := "law.go:64", after := #[{ on := 7, ground := Ground.data }], guard := none }) (v := ?_) rfl (by kernel_rfl) (by kernel_rfl) (by kernel_rfl) (by kernel_rfl) (fun _ _ _ h => h) (Or.inl ⟨by rfl, ?_⟩) hS0 ?_
                rotate_left
                · intro w9 hw9
                  obtain ⟨g1, g3, g4, g5, g6, g7, g8, g9⟩ := hw9
                  go_simp
                  try with_reducible rfl
                try simp only [Act.put, List.setIfInBounds_toArray, List.set_cons_zero, List.set_cons_succ]
                refine RegB.take0 (i := 13) (oi := { dst := some 120, op := Op.fieldAddr 30 (Operand.tmp 11) 1, type := 0, pos := "law.go:64", after := #[{ on := 0, ground := Ground.phase }, { on := 1, ground := Ground.phase }, { on := 2, ground := Ground.phase }, { on := 3, ground := Ground.phase }, { on := 4, ground := Ground.phase }, { on := 5, ground := Ground.phase }, { on := 6, ground := Ground.phase }, { on := 7, ground := Ground.phase }, { on := 8, ground := Ground.phase }, { on := 9, ground := Ground.textOnly Departure.lateStores }, { on := 10, ground := Ground.textOnly Departure.lateStores }, { on := 11, ground := Ground.textOnly Departure.lateStoresUnsure }, { on := 12, ground := Ground.textOnly Departure.lateStores }], guard := none }) (v := ?_) rfl (by kernel_rfl) (by kernel_rfl) (by kernel_rfl) (by kernel_rfl) (fun _ _ _ h => h) (Or.inl ⟨by rfl, ?_⟩) ?_
                rotate_left
                · intro w9 _
                  go_simp
                  try with_reducible rfl
                try simp only [Act.put, List.setIfInBounds_toArray, List.set_cons_zero, List.set_cons_succ]
                refine RegB.one (i := 11) (o := { dst := some 118, op := Op.call { callee := Callee.value (Operand.func 4), args := #[Operand.tmp 115, Operand.tmp 117], argTypes := #[26, 3] }, type := 26, pos := "law.go:64", after := #[{ on := 8, ground := Ground.data }, { on := 10, ground := Ground.data }], guard := none }) (by kernel_rfl) rfl (fun K hK => ?_)
                go_simp
                go_at_call 4
                with_reducible refine (HI.out (n - 1) ⟨k', mn', mx', sc', A', la', ca', B', lb', cb', C', lc', cc'⟩ _ _ (by omega) HP.out HQ.out ?_).mono ?_
                · exact HB5.out.drew
                rintro e w5 ⟨⟨k5, mn5, mx5, sc5, A5', la5, ca5, B5, lb5, cb5, C5, lc5, cc5⟩, l5, rfl, -, -, -, b5⟩
                have b6 : Below W4.heap.size W4 w5 := ((Below.refl _ W4).drew).trans b5
                have HH5 := hide (HH.out.below b6)
                obtain ⟨y0, y1, y2, y3, y4, y5, y6, y7, y8, y9, y10⟩ := cells11 (f := ⟨nu, nm, ne, ⟨k', mn', mx', sc', A', la', ca', B', lb', cb', C', lc', cc'⟩, D, ld, cd⟩) HH5.out
                dsimp only at y0 y1 y2 y3 y4 y5 y6 y7 y8 y9 y10
                obtain ⟨x1, x3, x4, x5, x6, x7, x8, x9, x10⟩ := free11 (f := ⟨nu, nm, ne, ⟨k', mn', mx', sc', A', la', ca', B', lb', cb', C', lc', cc'⟩, D, ld, cd⟩) HH5.out
                try dsimp only
                refine hK.out _ _ (fun _ => ⟨y1, y3, y4, y5, y6, y7, y8, y9⟩) ?_
                clear hS0 hK
                try simp only [Act.put, List.setIfInBounds_toArray, List.set_cons_zero, List.set_cons_succ]
                refine RegB.one (i := 14) (o := { dst := none, op := Op.store 9 (Operand.tmp 120) (Operand.tmp 113), type := 0, pos := "law.go:64", after := #[{ on := 13, ground := Ground.data }, { on := 6, ground := Ground.data }, { on := 11, ground := Ground.chain }, { on := 0, ground := Ground.phase }, { on := 1, ground := Ground.phase }, { on := 2, ground := Ground.phase }, { on := 3, ground := Ground.phase }, { on := 4, ground := Ground.phase }, { on := 5, ground := Ground.phase }, { on := 6, ground := Ground.phase }, { on := 7, ground := Ground.phase }, { on := 8, ground := Ground.phase }, { on := 9, ground := Ground.textOnly Departure.lateStores }, { on := 10, ground := Ground.textOnly Departure.lateStores }, { on := 11, ground := Ground.textOnly Departure.lateStoresUnsure }, { on := 12, ground := Ground.textOnly Departure.lateStores }], guard := none }) (by kernel_rfl) rfl (fun K hK => ?_)
                go_simp
                refine hK.out _ _ (fun h => absurd h (by decide)) ?_
                clear hK
                try simp only [Act.put, List.setIfInBounds_toArray, List.set_cons_zero, List.set_cons_succ]
                refine RegB.one (i := 15) (o := { dst := some 121, op := Op.fieldAddr 30 (Operand.tmp 11) 3, type := 0, pos := "law.go:64", after := #[{ on := 0, ground := Ground.phase }, { on := 1, ground := Ground.phase }, { on := 2, ground := Ground.phase }, { on := 3, ground := Ground.phase }, { on := 4, ground := Ground.phase }, { on := 5, ground := Ground.phase }, { on := 6, ground := Ground.phase }, { on := 7, ground := Ground.phase }, { on := 8, ground := Ground.phase }, { on := 9, ground := Ground.phase }, { on := 10, ground := Ground.phase }, { on := 11, ground := Ground.phase }, { on := 12, ground := Ground.textOnly Departure.lateStores }, { on := 13, ground := Ground.phase }, { on := 14, ground := Ground.phase }], guard := none }) (by kernel_rfl) rfl (fun K hK => ?_)
                go_simp
                refine hK.out _ _ (fun h => absurd h (by decide)) ?_
                clear hK
                try simp only [Act.put, List.setIfInBounds_toArray, List.set_cons_zero, List.set_cons_succ]
                refine RegB.one (i := 16) (o := { dst := none, op := Op.store 26 (Operand.tmp 121) (Operand.tmp 118), type := 0, pos := "law.go:64", after := #[{ on := 15, ground := Ground.data }, { on := 11, ground := Ground.data }, { on := 14, ground := Ground.chain }, { on := 0, ground := Ground.phase }, { on := 1, ground := Ground.phase }, { on := 2, ground := Ground.phase }, { on := 3, ground := Ground.phase }, { on := 4, ground := Ground.phase }, { on := 5, ground := Ground.phase }, { on := 6, ground := Ground.phase }, { on := 7, ground := Ground.phase }, { on := 8, ground := Ground.phase }, { on := 9, ground := Ground.phase }, { on := 10, ground := Ground.phase }, { on := 11, ground := Ground.phase }, { on := 12, ground := Ground.textOnly Departure.lateStores }, { on := 13, ground := Ground.phase }, { on := 14, ground := Ground.phase }], guard := none }) (by kernel_rfl) rfl (fun K hK => ?_)
                go_simp
                refine hK.out _ _ (fun h => absurd h (by decide)) ?_
                clear hK
                try simp only [Act.put, List.setIfInBounds_toArray, List.set_cons_zero, List.set_cons_succ]
                refine RegB.one (i := 17) (o := { dst := some 122, op := Op.fieldAddr 30 (Operand.tmp 11) 4, type := 0, pos := "law.go:64", after := #[{ on := 0, ground := Ground.phase }, { on := 1, ground := Ground.phase }, { on := 2, ground := Ground.phase }, { on := 3, ground := Ground.phase }, { on := 4, ground := Ground.phase }, { on := 5, ground := Ground.phase }, { on := 6, ground := Ground.phase }, { on := 7, ground := Ground.phase }, { on := 8, ground := Ground.phase }, { on := 9, ground := Ground.phase }, { on := 10, ground := Ground.phase }, { on := 11, ground := Ground.phase }, { on := 12, ground := Ground.phase }, { on := 13, ground := Ground.phase }, { on := 14, ground := Ground.phase }, { on := 15, ground := Ground.phase }, { on := 16, ground := Ground.phase }], guard := none }) (by kernel_rfl) rfl (fun K hK => ?_)
                go_simp
                refine hK.out _ _ (fun h => absurd h (by decide)) ?_
                clear hK
                try simp only [Act.put, List.setIfInBounds_toArray, List.set_cons_zero, List.set_cons_succ]
                refine RegB.one (i := 18) (o := { dst := none, op := Op.store 28 (Operand.tmp 122) (Operand.tmp 119), type := 0, pos := "law.go:64", after := #[{ on := 17, ground := Ground.data }, { on := 12, ground := Ground.data }, { on := 16, ground := Ground.chain }, { on := 0, ground := Ground.phase }, { on := 1, ground := Ground.phase }, { on := 2, ground := Ground.phase }, { on := 3, ground := Ground.phase }, { on := 4, ground := Ground.phase }, { on := 5, ground := Ground.phase }, { on := 6, ground := Ground.phase }, { on := 7, ground := Ground.phase }, { on := 8, ground := Ground.phase }, { on := 9, ground := Ground.phase }, { on := 10, ground := Ground.phase }, { on := 11, ground := Ground.phase }, { on := 12, ground := Ground.phase }, { on := 13, ground := Ground.phase }, { on := 14, ground := Ground.phase }, { on := 15, ground := Ground.phase }, { on := 16, ground := Ground.phase }], guard := none }) (by kernel_rfl) rfl (fun K hK => ?_)
                go_simp
                refine hK.out _ _ (fun h => absurd h (by decide)) ?_
                clear hK
                try simp only [Act.put, List.setIfInBounds_toArray, List.set_cons_zero, List.set_cons_succ]
                refine RegB.done (by kernel_rfl) ?_ _
                go_wp2_with fail
                go_meet
                have hB9 : Below W1.heap.size W1 w5 := HB4.out.trans (b6.mono HB4.out.size)
                refine ⟨⟨nu, nm.extract 0 mm, ne, ⟨k5, mn5, mx5, sc5, A5', la5, ca5, B5, lb5, cb5, C5, lc5, cc5⟩, D', nd, cd'⟩, ?_, ?_⟩
                · simpa using ((((((((HH5.out.put 1 (.string (nm.extract 0 mm))).put 3 (.int .i64 k5)).put 4 (.int .i64 mn5)).put 5 (.int .i64 mx5)).put 6 (.int .i64 sc5)).put 7 (.slice A5' la5 ca5)).put 8 (.slice B5 lb5 cb5)).put 9 (.slice C5 lc5 cc5)).put 10 (.slice D' nd cd')
                · repeat (first | with_reducible exact hB9 | with_reducible refine Below.setCell ?_ (by simp) _)
              case rest =>
                obtain ⟨⟨nu2, nm2, ne2, ⟨k2, mn2, mx2, sc2, A2, la2, ca2, B2, lb2, cb2, C2, lc2, cc2⟩, D2, ld2, cd2⟩, hH2, hB2⟩ := hcut
                obtain ⟨h0, h1, h2, h3, h4, h5, h6, h7, h8, h9, h10⟩ := cells11 hH2
                dsimp only at h0 h1 h2 h3 h4 h5 h6 h7 h8 h9 h10
                have OB := hide (own_below HO.out hB2)
                have BX := hide (HBX.out.below hB2)
                have hs1 : w.heap.size + 2 ≤ wc.heap.size := by have := BX.out.r.lt; omega
                obtain ⟨i0, hi, hz0, hz1, hz2⟩ := info_parts tfInfo
                clear hH2 hB2 hH
                go_wp2_with (at_builtin; refine wpList_append_own _ rfl _ _ 24 rfl (w.heap.size + 2) 30 i0 (.agg #[.int .i64 0, .string ⟨#[]⟩, .int .i64 0, .int .i64 0, .int .i64 0, .int .i64 0, .int .i64 0, .slice none 0 0, .slice none 0 0, .slice none 0 0, .slice none 0 0]) 11 160 Tryd.underlying24 hi hz0 hz1 hz2 rfl (by decide) _ _ _ rfl (OB.out.alloc _) ⟨wc.heap.size, 0, none⟩ 1 1 [.int .i64 nu2, .string nm2, .int .i64 ne2, .int .i64 k2, .int .i64 mn2, .int .i64 mx2, .int .i64 sc2, .slice A2 la2 ca2, .slice B2 lb2 cb2, .slice C2 lc2 cc2, .slice D2 ld2 cd2] rfl rfl ?c1 ?c2 ?c3 ?c4 ?c5 ?_)
                case c2 => simp [Value.oneCell']
                case c3 => unfold maxLen; omega
                case c4 => omega
                case c5 => first | omega | (simp; omega)
                intro v' w2 hown' hgrow _
                have BX2 := hide (BX.out.grown hgrow (new1 _ _) (fun q e => (OB.out.lt q e).1))
                have HO2 : Hid (w2.ownsRow (w.heap.size + 2) 30 11 v' (j + 1) ((l ++ [(⟨nu2, nm2, ne2, ⟨k2, mn2, mx2, sc2, A2, la2, ca2, B2, lb2, cb2, C2, lc2, cc2⟩, D2, ld2, cd2⟩ : Tf)]).flatMap Tf.list)) := hide (by simpa [List.flatMap_append, Tf.list, Typ.list] using hown')
                clear hown' hgrow hi hz0 hz1 hz2 h0 h1 h2 h3 h4 h5 h6 h7 h8 h9 h10
                go_wp2_with fail
                go_roundw
                case rel => exact ⟨j + 1, l ++ [(⟨nu2, nm2, ne2, ⟨k2, mn2, mx2, sc2, A2, la2, ca2, B2, lb2, cb2, C2, lc2, cc2⟩, D2, ld2, cd2⟩ : Tf)], by simp [HL.out], by omega, by go_num, HO2.out, BX2.out⟩
                case measure => simp [intOf]; omega
          · have hj' : j = rounds n lc 6 := by omega
            subst hl
            obtain ⟨C', c', rfl, hrow⟩ := TRow.of_own hown
            have h6 : l.length ≤ 6 := by have := rounds_le n lc 6; omega
            have H6 := hide h6
            have HRow := hide hrow
            have t4 : (0 : Int) ≤ (l.length : Int) := Int.natCast_nonneg _
            have hc := rounds_out n lc 6
            rw [← hj'] at hc
            have hc' : ¬ (l.length : Int) < (lc : Int) ∨ ((l.length : Int) < (lc : Int) ∧ ¬ (l.length : Int) < 6) ∨ ((l.length : Int) < (lc : Int) ∧ (l.length : Int) < 6 ∧ ¬ 1 < x) := by omega
            clear hc hj hj' hlt hx hown hbx h6 hrow
            rcases hc' with h1 | ⟨h1, h2⟩ | ⟨h1, h2, h3⟩
            · go_wp2_with fail
              go_meet
              exact ⟨_, _, _, rfl, H6.out, HRow.out, HBX.out⟩
            · go_wp2_with fail
              go_meet
              exact ⟨_, _, _, rfl, H6.out, HRow.out, HBX.out⟩
            · go_wp2_with fail
              go_meet
              exact ⟨_, _, _, rfl, H6.out, HRow.out, HBX.out⟩
      case rest =>
        obtain ⟨C7, c7, l, rfl, h6, hrow, q1, q2, q3⟩ := hcut
        have HRow := hide hrow
        have H6 := hide h6
        have a0 : wc.cell? ⟨w.heap.size, 0, none⟩ = some (.int .i64 k) := q1.cell 0
        have a1 : wc.cell? ⟨w.heap.size, 1, none⟩ = some (.int .i64 mn) := q1.cell 1
        have a2 : wc.cell? ⟨w.heap.size, 2, none⟩ = some (.int .i64 mx) := q1.cell 2
        have a3 : wc.cell? ⟨w.heap.size, 3, none⟩ = some (.int .i64 sc) := q1.cell 3
        have a4 : wc.cell? ⟨w.heap.size, 4, none⟩ = some (.slice A la ca) := q1.cell 4
        have a5 : wc.cell? ⟨w.heap.size, 5, none⟩ = some (.slice B lb cb) := q1.cell 5
        have a6 : wc.cell? ⟨w.heap.size, 6, none⟩ = some (.slice C lc cc) := q1.cell 6
        have b0 : wc.cell? ⟨w.heap.size + 1, 0, none⟩ = some (.int .i64 0) := q2.cell 0
        have b1 : wc.cell? ⟨w.heap.size + 1, 1, none⟩ = some (.int .i64 0) := q2.cell 1
        have b2 : wc.cell? ⟨w.heap.size + 1, 2, none⟩ = some (.int .i64 0) := q2.cell 2
        have b3 : wc.cell? ⟨w.heap.size + 1, 3, none⟩ = some (.int .i64 0) := q2.cell 3
        have b4 : wc.cell? ⟨w.heap.size + 1, 4, none⟩ = some (.slice none 0 0) := q2.cell 4
        have b5 : wc.cell? ⟨w.heap.size + 1, 5, none⟩ = some (.slice none 0 0) := q2.cell 5
        have b6 : wc.cell? ⟨w.heap.size + 1, 6, none⟩ = some (.slice none 0 0) := q2.cell 6
        have e4 := q1.free 4
        have e5 := q1.free 5
        have e6 := q1.free 6
        have f0 := q2.free 0
        have f1 := q2.free 1
        have f2 := q2.free 2
        have f3 := q2.free 3
        have f4 := q2.free 4
        have f5 := q2.free 5
        have f6 := q2.free 6
        have Q3 := hide q3
        clear q1 q2 q3 h6 hrow
        go_wp2_with fail
        refine bodyPost_ret (v := .agg #[.int .i64 k, .int .i64 mn, .int .i64 mx, .int .i64 sc, .slice A5 n5 c5', .slice A6 n6 c6', .slice C7 l.length c7]) (by simp [results, Tryd.results4, go_sem, b0, b1, b2, b3, b4, b5, b6]) rfl ⟨⟨k, mn, mx, sc, A5, n5, c5', A6, n6, c6', C7, l.length, c7⟩, l, rfl, rfl, H6.out, TRow.low (n₀ := w.heap.size + 2) ?_ (by omega), ?_⟩
        · repeat (first | with_reducible exact HRow.out | with_reducible refine TRow.set ?_ (by simp) _)
        · repeat (first | with_reducible exact Q3.out | with_reducible refine Below.setCell ?_ (by simp) _)
theorem shortType_any (W0 : World) : ∀ (n : Nat) (v : Typ) (x : Int) (w : World), n < 100 → TOk W0 n v.list → x = n + 1 → Below W0.heap.size W0 w → Calls Tryd.prog 4 #[.agg v.arr, .int .i64 x] w (STPost w) := by
  intro n
  induction n using Nat.strongRecOn with
  | ind n ih =>
    intro v x w hn hv hx hb
    exact st_step n W0 (fun m v x w hm h1 h2 h3 => ih m hm v x w (by omega) h1 h2 h3) v x w hv hx hn hb
end Go.Proofs.YtdkkblkbonjjgaaDoor.Ff
