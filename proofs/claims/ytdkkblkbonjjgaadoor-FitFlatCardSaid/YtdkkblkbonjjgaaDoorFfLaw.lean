/- The law FitFlat: its walk. Condition: the listed tables. -/
import Derived.Test.YtdkkblkbonjjgaaDoorFfTyp
import Derived.Test.YtdkkblkbonjjgaaDoorFfFlat
import Derived.Test.YtdkkblkbonjjgaaDoorKnown
namespace Go.Proofs.YtdkkblkbonjjgaaDoor
open Go Go.RowKit Go.PlainAid Ff
theorem open_typ {W : World} {n : Nat} {cs : Array Value} (h : TOk W n cs.toList) : ∃ v : Typ, cs = v.arr ∧ TOk W n v.list := by
  obtain ⟨v, e, _⟩ := h.parts
  refine ⟨v, ?_, e ▸ h⟩
  apply Array.ext'
  rw [e]
  rfl
/-- the first fields are of scalar kinds -/
def upK (k : Int) (l : List Tf) (i : Nat) : Prop := k = 9 ∧ 0 < l.length ∧ ∀ j (h : j < l.length), j < i → kOk l[j]
theorem upK_all (k : Int) (l : List Tf) : upK k l l.length ↔ isFlat k l := ⟨fun h => ⟨h.1, h.2.1, fun i hi => h.2.2 i hi hi⟩, fun h => ⟨h.1, h.2.1, fun j hj _ => h.2.2 j hj⟩⟩
theorem upK_step {k : Int} {l : List Tf} {i : Nat} (h : i < l.length) : upK k l (i + 1) ↔ upK k l i ∧ kOk l[i] := by
  constructor
  · intro ⟨a, b, c⟩
    exact ⟨⟨a, b, fun j hj hji => c j hj (by omega)⟩, c i h (by omega)⟩
  · intro ⟨⟨a, b, c⟩, d⟩
    refine ⟨a, b, fun j hj hji => ?_⟩
    by_cases e : j = i
    · subst e; exact d
    · exact c j hj (by omega)
set_option maxRecDepth 100000 in
set_option maxHeartbeats 8000000 in
theorem fitFlat_walk (cs : Array Value) (W : World) (hL : Laid W) (h : TOk W 3 cs.toList) :
    Calls Tryd.prog 3 #[.agg cs] W fun e w' => e = .returned (.bool true) ∧ Below W.heap.size W w' := by
  obtain ⟨v, rfl, hv⟩ := open_typ h
  have HV := hide hv
  obtain ⟨k, mn, mx, sc, A, la, ca, B, lb, cb, C, lc, cc⟩ := v
  clear h hv
  show Calls Tryd.prog 3 #[.agg #[.int .i64 k, .int .i64 mn, .int .i64 mx, .int .i64 sc, .slice A la ca, .slice B lb cb, .slice C lc cc]] W _
  go_enter Tryd.func3, Tryd.ntmps3
  go_upto_region 1 with fail
  go_cut [] (fun wx => ∃ (v : Typ) (l : List Tf), Holds wx W.heap.size 26 v.arr ∧ v.lc = l.length ∧ l.length ≤ 6 ∧ TRow (W.heap.size + 1) wx v.C l ∧ Below W.heap.size W wx)
  case first =>
    go_wp2_with fail
    refine (shortType_any W 3 ⟨k, mn, mx, sc, A, la, ca, B, lb, cb, C, lc, cc⟩ 4 _ (by omega) HV.out (by rfl) (new1 _ _)).mono ?_
    rintro e w1 ⟨⟨k1, mn1, mx1, sc1, A1, la1, ca1, B1, lb1, cb1, C1, lc1, cc1⟩, l, rfl, hlc, h6, hr, b1⟩
    have hH : Holds w1 W.heap.size 26 #[.int .i64 k, .int .i64 mn, .int .i64 mx, .int .i64 sc, .slice A la ca, .slice B lb cb, .slice C lc cc] := Holds.below (heap_alloc_new W _) b1
    have HH := hide hH
    have HLC := hide hlc
    have H6 := hide h6
    have HR := hide hr
    have HB : Hid (Below W.heap.size W w1) := hide (below_step (new1 _ _) b1)
    have y0 : w1.cell? ⟨W.heap.size, 0, none⟩ = some (.int .i64 k) := hH.cell 0
    have y1 : w1.cell? ⟨W.heap.size, 1, none⟩ = some (.int .i64 mn) := hH.cell 1
    have y2 : w1.cell? ⟨W.heap.size, 2, none⟩ = some (.int .i64 mx) := hH.cell 2
    have y3 : w1.cell? ⟨W.heap.size, 3, none⟩ = some (.int .i64 sc) := hH.cell 3
    have y4 : w1.cell? ⟨W.heap.size, 4, none⟩ = some (.slice A la ca) := hH.cell 4
    have y5 : w1.cell? ⟨W.heap.size, 5, none⟩ = some (.slice B lb cb) := hH.cell 5
    have y6 : w1.cell? ⟨W.heap.size, 6, none⟩ = some (.slice C lc cc) := hH.cell 6
    have x0 := hH.free 0
    have x1 := hH.free 1
    have x2 := hH.free 2
    have x3 := hH.free 3
    have x4 := hH.free 4
    have x5 := hH.free 5
    have x6 := hH.free 6
    clear hH hlc h6 hr b1
    go_wp2_with fail
    go_meet
    refine ⟨⟨k1, mn1, mx1, sc1, A1, la1, ca1, B1, lb1, cb1, C1, lc1, cc1⟩, l, ?_, HLC.out, H6.out, ?_, ?_⟩
    · simpa using ((((((HH.out.put 0 (.int .i64 k1)).put 1 (.int .i64 mn1)).put 2 (.int .i64 mx1)).put 3 (.int .i64 sc1)).put 4 (.slice A1 la1 ca1)).put 5 (.slice B1 lb1 cb1)).put 6 (.slice C1 lc1 cc1)
    · have HR' : TRow (W.heap.size + 1) w1 C1 l := HR.out.low (by simp)
      repeat (first | with_reducible exact HR' | with_reducible refine TRow.set ?_ (by simp) _)
    · have HB' := HB.out
      repeat (first | with_reducible exact HB' | with_reducible refine Below.setCell ?_ (by simp) _)
  case rest =>
    obtain ⟨⟨k1, mn1, mx1, sc1, A1, la1, ca1, B1, lb1, cb1, C1, lc1, cc1⟩, l, hH, hlc, h6, hr, hb⟩ := hcut
    dsimp only at hlc hr hH
    subst hlc
    have HH := hide hH
    have H6 := hide h6
    have HR := hide hr
    have HB := hide hb
    have y0 : wc.cell? ⟨W.heap.size, 0, none⟩ = some (.int .i64 k1) := hH.cell 0
    have y6 : wc.cell? ⟨W.heap.size, 6, none⟩ = some (.slice C1 l.length cc1) := hH.cell 6
    clear hH hr hb
    have hwant : ∃ b, (b = true ↔ upK k1 l 0) ∧ ((k1 == 9) = false ∧ b = false ∨ (k1 = 9 ∧ ¬ (0 : Int) < (l.length : Int) ∧ b = false) ∨ (k1 = 9 ∧ (0 : Int) < (l.length : Int) ∧ b = true)) := by
      by_cases h9 : k1 = 9
      · by_cases h0 : 0 < l.length
        · exact ⟨true, ⟨fun _ => ⟨h9, h0, fun j _ hj => by omega⟩, fun _ => rfl⟩, .inr (.inr ⟨h9, by omega, rfl⟩)⟩
        · exact ⟨false, ⟨fun h => (Bool.noConfusion h), fun h => absurd h.2.1 h0⟩, .inr (.inl ⟨h9, by omega, rfl⟩)⟩
      · exact ⟨false, ⟨fun h => (Bool.noConfusion h), fun h => absurd h.1 h9⟩, .inl ⟨by simpa using h9, rfl⟩⟩
    obtain ⟨b0, hb0, hcase⟩ := hwant
    have HB0 := hide hb0
    clear hb0
    obtain ⟨W2, rfl⟩ : ∃ X, X = wc := ⟨_, rfl⟩
    go_upto_region 2 with fail
    go_cut [3] (fun s3 wx => s3 = .bool b0 ∧ wx = W2)
    case first =>
      rcases hcase with ⟨h1, rfl⟩ | ⟨rfl, h2, rfl⟩ | ⟨rfl, h2, rfl⟩
      · go_wp2_with fail
        go_meet
        exact ⟨rfl, rfl⟩
      · go_wp2_with fail
        go_meet
        exact ⟨by rw [decide_eq_false (by omega)], rfl⟩
      · go_wp2_with fail
        go_meet
        exact ⟨by rw [decide_eq_true (by omega)], rfl⟩
    case rest =>
      obtain ⟨rfl, hwc⟩ := hcut
      subst hwc
      have HY6 := hide y6
      clear y0 y6 hcase
      go_wp2_with fail
      go_loopw [3, 4] (fun s3 y wr => ∃ (j : Nat) (b : Bool), s3 = .bool b ∧ y = .int .i64 j ∧ j ≤ l.length ∧ (b = true ↔ upK k1 l j) ∧ wr = wc) (fun _ y _ => l.length - (intOf y).toNat)
      case atStart => exact ⟨0, b0, rfl, rfl, Nat.zero_le _, HB0.out, rfl⟩
      case round =>
        obtain ⟨j, b, rfl, rfl, hj, hbj, hwr⟩ := hrel
        subst hwr
        have HBJ := hide hbj
        have c6 := HY6.out
        have t4 : (0 : Int) ≤ (j : Int) := Int.natCast_nonneg _
        clear hbj
        by_cases hlt : j < l.length
        · obtain ⟨g, rfl, hg, hc⟩ := row_cells HR.out hlt
          obtain ⟨_, _, _, d3, _⟩ := hc _ (Below.refl _ _)
          have t1 : (j : Int) < (l.length : Int) := by omega
          have HS := hide (upK_step (k := k1) hlt)
          have HK : Hid (kOk l[j] ↔ 1 ≤ l[j].t.k ∧ l[j].t.k ≤ 7) := hide Iff.rfl
          obtain ⟨q, hq⟩ : ∃ q, l[j].t.k = q := ⟨_, rfl⟩
          rw [hq] at d3
          have HK' : Hid (kOk l[j] ↔ 1 ≤ q ∧ q ≤ 7) := hide (by have := HK.out; rw [hq] at this; exact this)
          clear hc hq HK
          cases b
          · have NX : Hid (false = true ↔ upK k1 l (j + 1)) := hide (by rw [HS.out]; exact ⟨fun h => (Bool.noConfusion h), fun h => HBJ.out.2 h.1⟩)
            go_wp2_with fail
            go_roundw
            case rel => exact ⟨j + 1, false, rfl, by go_num, by omega, NX.out, by first | rfl | trivial⟩
            case measure => simp [intOf]; omega
          · have hk : q < 1 ∨ (¬ q < 1 ∧ 7 < q) ∨ (¬ q < 1 ∧ ¬ 7 < q) := by omega
            rcases hk with h1 | ⟨h1, h2⟩ | ⟨h1, h2⟩
            · have NX : Hid (false = true ↔ upK k1 l (j + 1)) := hide (by rw [HS.out, HK'.out]; exact ⟨fun h => (Bool.noConfusion h), fun h => absurd h.2.1 (by omega)⟩)
              go_wp2_with fail
              go_roundw
              case rel => exact ⟨j + 1, false, rfl, by go_num, by omega, NX.out, by first | rfl | trivial⟩
              case measure => simp [intOf]; omega
            · have NX : Hid (false = true ↔ upK k1 l (j + 1)) := hide (by rw [HS.out, HK'.out]; exact ⟨fun h => (Bool.noConfusion h), fun h => absurd h.2.2 (by omega)⟩)
              go_wp2_with fail
              go_roundw
              case rel => exact ⟨j + 1, false, by rw [decide_eq_false (by omega)], by go_num, by omega, NX.out, by first | rfl | trivial⟩
              case measure => simp [intOf]; omega
            · have NX : Hid (true = true ↔ upK k1 l (j + 1)) := hide (by rw [HS.out, HK'.out]; exact ⟨fun _ => ⟨HBJ.out.1 rfl, by omega, by omega⟩, fun _ => rfl⟩)
              go_wp2_with fail
              go_roundw
              case rel => exact ⟨j + 1, true, by rw [decide_eq_true (by omega)], by go_num, by omega, NX.out, by first | rfl | trivial⟩
              case measure => simp [intOf]; omega
        · obtain rfl : j = l.length := by omega
          have HD : Hid (decide (isFlat k1 l) = b) := hide (by
            have := HBJ.out
            rw [upK_all] at this
            cases b
            · exact decide_eq_false fun h => by have := this.2 h; cases this
            · exact decide_eq_true (this.1 rfl))
          have FL : Hid (∀ w, TRow 0 w C1 l → Calls Tryd.prog 6 #[.agg #[.int .i64 k1, .int .i64 mn1, .int .i64 mx1, .int .i64 sc1, .slice A1 la1 ca1, .slice B1 lb1 cb1, .slice C1 l.length cc1]] w fun e w' => e = .returned (.bool b) ∧ Below w.heap.size w w') := hide fun w hr => by rw [← HD.out]; exact flat_any k1 mn1 mx1 sc1 A1 la1 ca1 B1 lb1 cb1 C1 l cc1 w hr H6.out
          clear hj hlt
          go_wp2_with fail
          refine (known_ok _ (hL.below HB.out)).mono ?_
          rintro e w2 ⟨rfl, b2⟩
          have hH := Holds.below HH.out b2
          have y0 : w2.cell? ⟨W.heap.size, 0, none⟩ = some (.int .i64 k1) := hH.cell 0
          have y1 : w2.cell? ⟨W.heap.size, 1, none⟩ = some (.int .i64 mn1) := hH.cell 1
          have y2 : w2.cell? ⟨W.heap.size, 2, none⟩ = some (.int .i64 mx1) := hH.cell 2
          have y3 : w2.cell? ⟨W.heap.size, 3, none⟩ = some (.int .i64 sc1) := hH.cell 3
          have y4 : w2.cell? ⟨W.heap.size, 4, none⟩ = some (.slice A1 la1 ca1) := hH.cell 4
          have y5 : w2.cell? ⟨W.heap.size, 5, none⟩ = some (.slice B1 lb1 cb1) := hH.cell 5
          have y6 : w2.cell? ⟨W.heap.size, 6, none⟩ = some (.slice C1 l.length cc1) := hH.cell 6
          have HR2 := hide ((HR.out.low (Nat.zero_le _)).below b2)
          have HB2 : Hid (Below W.heap.size W w2) := hide (below_step HB.out b2)
          clear hH b2
          go_wp2_with fail
          refine (FL.out _ HR2.out).mono ?_
          rintro e w3 ⟨rfl, b3⟩
          go_wp2_with fail
          go_returns
          exact ⟨by simp, below_step HB2.out b3⟩
end Go.Proofs.YtdkkblkbonjjgaaDoor
