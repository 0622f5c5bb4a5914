/- The law TaggedJoins: its walk. Condition: the listed tables. -/
import Derived.Test.YtdkkblkbonjjgabGreatDoorTjParts
import Derived.Test.YtdkkblkbonjjgabGreatDoorKnown
namespace Go.Proofs.YtdkkblkbonjjgabGreatDoor
open Go Go.RowKit Go.PlainAid Tj
open TagN hiding hide below_step
theorem keep1 {n : Nat} {W X : World} {g o : Nat} {y : Value} (hb : Below n W X) (hg : g < n) (h : W.cell? ⟨g, o, none⟩ = some y) : X.cell? ⟨g, o, none⟩ = some y := (hb.cell (p := ⟨g, o, none⟩) hg).trans h
theorem pre_text {l : List E} {k : Nat} (h : k < l.length) : strOfNums (pre l (k + 1)) = strOfNums (pre l k) ++ putB (at_ l k).1.toNat ++ putB (at_ l k).2.size ++ (at_ l k).2 := by
  have e : pre l (k + 1) = pre l k ++ (putL (at_ l k).1.toNat ++ (putL (at_ l k).2.size ++ bytesL (at_ l k).2)) := by
    unfold pre
    rw [bodyL_succ h]
    simp [partL, numB, List.append_assoc]
  rw [e, ← nums_append, ← nums_append, ← nums_append, str_bytes]
  simp only [putB, ByteArray.append_assoc]
theorem cellsE_at : ∀ (l : List E) (i : Nat), i < l.length → (cellsE l)[i * 2]? = some (.int .i64 (at_ l i).1) ∧ (cellsE l)[i * 2 + 1]? = some (.string (at_ l i).2)
  | p :: l, 0, _ => ⟨rfl, rfl⟩
  | p :: l, i + 1, h => by
    have := cellsE_at l i (by simpa using h)
    rw [cellsE, List.flatMap_cons, ← cellsE]
    rw [show (i + 1) * 2 = i * 2 + 1 + 1 by omega, show i * 2 + 1 + 1 + 1 = (i * 2 + 1) + 1 + 1 by omega]
    exact this
theorem row_own {w : World} {B : Nat} {v : Value} {l : List E} (h : w.ownsRow B 27 2 v l.length (cellsE l)) : ∃ A cap, v = .slice A l.length cap ∧ Row w A l := by
  have h' := h
  rcases h.2 with ⟨rfl, h0⟩ | ⟨g, cap, cur, rfl, _, hg, _⟩
  · exact ⟨none, 0, by rw [h0], fun hl => by omega⟩
  · refine ⟨_, cap, rfl, fun _ => ⟨g, 0, rfl, ?_, fun i hi => ?_⟩⟩
    · rcases Nat.lt_or_ge g w.heap.size with hlt | hge
      · exact hlt
      · rw [Array.getElem?_eq_none hge] at hg; cases hg
    · obtain ⟨c0, c1⟩ := cellsE_at l i hi
      unfold Lies
      rw [Nat.zero_add]
      exact ⟨(h'.cellAt _ (by omega)).trans c0, (h'.cellAt _ (by omega)).trans c1⟩
/-- the loop of what is wanted: the error so far, the number before, the text so far -/
structure Want (l : List E) (k : Nat) (ee bb : Int) (t : ByteArray) : Prop where
  s : ∀ j, j < k → (at_ l j).2.size ≤ 50
  z : t.size ≤ 9 + k * 70
  ok : ee = 0 → chk 0 l = chk bb (l.drop k) ∧ t = strOfNums (pre l k) ∧ ∀ j, j < k → 1 ≤ (at_ l j).1 ∧ (at_ l j).1 ≤ 9999
  bad : ee ≠ 0 → chk 0 l = ee
theorem Want.small {l : List E} {k : Nat} {ee bb : Int} {t : ByteArray} (h : Want l k ee bb t) {s : ByteArray} (hs : (at_ l k).2 = s) (h5 : s.size ≤ 50) : ∀ j, j < k + 1 → (at_ l j).2.size ≤ 50 := fun j hj => by
  by_cases hjk : j = k
  · subst hjk; rw [hs]; exact h5
  · exact h.s j (by omega)
theorem Want.stay {l : List E} {k : Nat} {ee bb x : Int} {t s : ByteArray} (h : Want l k ee bb t) (hs : (at_ l k).2 = s) (h5 : s.size ≤ 50) (h0 : ee ≠ 0) : Want l (k + 1) ee x t :=
  ⟨h.small hs h5, by have := h.z; omega, fun e => absurd e h0, h.bad⟩
theorem Want.fall {l : List E} {k : Nat} {bb x : Int} {t s : ByteArray} (h : Want l k 0 bb t) (hk : k < l.length) (hx : (at_ l k).1 = x) (hs : (at_ l k).2 = s) (h5 : s.size ≤ 50) {c : Int} (hc : cn x bb = c) (h0 : c ≠ 0) : Want l (k + 1) c x t :=
  ⟨h.small hs h5, by have := h.z; omega, fun e => absurd e h0, fun _ => by rw [(h.ok rfl).1, chk_drop hk, hx, hc, if_pos h0]⟩
theorem Want.go {l : List E} {k m : Nat} {bb : Int} {t s : ByteArray} (h : Want l k 0 bb t) (hk : k < l.length) (hx : (at_ l k).1 = (m : Int)) (hs : (at_ l k).2 = s) (h5 : s.size ≤ 50) (hc : cn (m : Int) bb = 0) : Want l (k + 1) 0 (m : Int) (t ++ putB m ++ putB s.size ++ s) := by
  obtain ⟨a, b, c⟩ := h.ok rfl
  have hm := cn_ok hc
  have z1 := putB_size (n := m) ⟨by omega⟩
  have z2 := putB_size (n := s.size) ⟨by omega⟩
  refine ⟨h.small hs h5, ?_, fun _ => ⟨?_, ?_, fun j hj => ?_⟩, fun e => absurd rfl e⟩
  · have := h.z
    simp only [ByteArray.size_append]
    omega
  · rw [a, chk_drop hk, hx, hc]; simp
  · rw [pre_text hk, hx, hs, Int.toNat_natCast, b]
  · by_cases hjk : j = k
    · subst hjk; rw [hx]; omega
    · exact c j (by omega)
set_option maxRecDepth 100000 in
set_option maxHeartbeats 8000000 in
theorem taggedJoins_walk (A : Option Addr) (l : List E) (ca : Nat) (W : World) (hL : Laid W) (hr : l.length ≤ ca ∧ Row W A l) :
    Calls Tryz.prog 3 #[.slice A l.length ca] W fun e w' => e = .returned (.bool true) ∧ Below W.heap.size W w' := by
  have HR := hide hr.2
  clear hr
  by_cases h20 : l.length ≤ 20
  · have h20' : ¬ (20 : Int) < (l.length : Int) := by omega
    have W0 : Hid (Want l 0 0 0 (putB l.length)) := hide ⟨fun j hj => by omega, by have := putB_size (n := l.length) ⟨by omega⟩; omega, fun _ => ⟨by rw [List.drop_zero], by rw [pre_zero]; rfl, fun j hj => by omega⟩, fun h => absurd rfl h⟩
    go_enter Tryz.func3, Tryz.ntmps3
    go_wp2_with fail
    refine (known_ok _ hL).mono ?_
    rintro e w1 ⟨rfl, b1⟩
    have B1 := hide b1
    clear b1
    go_wp2_with fail
    refine (refPut_any l.length ⟨by omega⟩ _).mono ?_
    rintro e w2 ⟨rfl, b2⟩
    have B2 : Hid (Below W.heap.size W w2) := hide (Tj.below_step B1.out b2)
    clear b2 B1
    go_wp2_with fail
    go_loopw [3, 4, 5, 6] (fun t e b x wr => ∃ (k : Nat) (ee bb : Int) (tt : ByteArray), k ≤ l.length ∧ x = .int .i64 k ∧ e = .int .i64 ee ∧ b = .int .i64 bb ∧ t = .string tt ∧ Hid (Want l k ee bb tt) ∧ Hid (Below W.heap.size W wr)) (fun _ _ _ x _ => l.length - (intOf x).toNat)
    case atStart => exact ⟨0, 0, 0, _, Nat.zero_le _, rfl, rfl, rfl, rfl, W0, B2⟩
    case round =>
      obtain ⟨k, ee, bb, tt, hk, rfl, rfl, rfl, rfl, WK, HB⟩ := hrel
      have hi0 : (0 : Int) ≤ (k : Int) := Int.natCast_nonneg _
      by_cases hlt : k < l.length
      · obtain ⟨g, off, rfl, hg, hc⟩ := HR.out (by omega)
        obtain ⟨d0, d1⟩ := (hc k hlt).below hg HB.out
        obtain ⟨x, hx⟩ : ∃ x, (at_ l k).1 = x := ⟨_, rfl⟩
        obtain ⟨s, hsx⟩ : ∃ s, (at_ l k).2 = s := ⟨_, rfl⟩
        rw [hx] at d0
        rw [hsx] at d1
        have HX := hide hx
        have HSX := hide hsx
        have hi1 : (k : Int) < (l.length : Int) := by omega
        have hgr : g < wr.heap.size := Nat.lt_of_lt_of_le hg HB.out.size
        have s0 : (0 : Int) ≤ (s.size : Int) := Int.natCast_nonneg _
        have tz := WK.out.z
        clear hc hx hsx
        by_cases h50 : s.size ≤ 50
        · have h50' : ¬ (50 : Int) < (s.size : Int) := by omega
          by_cases he : ee = 0
          · subst he
            have hcase : x < 1 ∨ (¬ x < 1 ∧ 9999 < x) ∨ (¬ x < 1 ∧ ¬ 9999 < x ∧ x ≤ bb) ∨ (¬ x < 1 ∧ ¬ 9999 < x ∧ ¬ x ≤ bb) := by omega
            rcases hcase with h1 | ⟨h1, h2⟩ | ⟨h1, h2, h3⟩ | ⟨h1, h2, h3⟩
            · have NX := hide (WK.out.fall hlt HX.out HSX.out h50 (c := 2) (by unfold cn; rw [if_pos (.inl h1)]) (by decide))
              go_wp2_with fail
              go_roundw
              case rel => exact ⟨k + 1, 2, x, tt, by omega, by go_num, rfl, rfl, rfl, NX, HB⟩
              case measure => simp [intOf]; omega
            · have NX := hide (WK.out.fall hlt HX.out HSX.out h50 (c := 2) (by unfold cn; rw [if_pos (.inr h2)]) (by decide))
              go_wp2_with fail
              go_roundw
              case rel => exact ⟨k + 1, 2, x, tt, by omega, by go_num, rfl, rfl, rfl, NX, HB⟩
              case measure => simp [intOf]; omega
            · have NX := hide (WK.out.fall hlt HX.out HSX.out h50 (c := 24) (by unfold cn; rw [if_neg (by omega), if_pos h3]) (by decide))
              go_wp2_with fail
              go_roundw
              case rel => exact ⟨k + 1, 24, x, tt, by omega, by go_num, rfl, rfl, rfl, NX, HB⟩
              case measure => simp [intOf]; omega
            · obtain ⟨m, rfl⟩ : ∃ m : Nat, x = (m : Int) := ⟨x.toNat, by omega⟩
              have NX := hide (WK.out.go hlt HX.out HSX.out h50 (by unfold cn; rw [if_neg (by omega), if_neg h3]))
              have z1 := putB_size (n := m) ⟨by omega⟩
              have z2 := putB_size (n := s.size) ⟨by omega⟩
              have hk20 : tt.size ≤ 2000 := by omega
              have RM : Hid (∀ w, Calls Tryz.prog 5 #[.int .i64 (m : Int)] w fun e w' => e = .returned (.string (putB m)) ∧ Below w.heap.size w w') := hide (refPut_any m ⟨by omega⟩)
              have RS : Hid (∀ w, Calls Tryz.prog 5 #[.int .i64 (s.size : Int)] w fun e w' => e = .returned (.string (putB s.size)) ∧ Below w.heap.size w w') := hide (refPut_any s.size ⟨by omega⟩)
              obtain ⟨pm, hpm⟩ : ∃ p, putB m = p := ⟨_, rfl⟩
              obtain ⟨ps, hps⟩ : ∃ p, putB s.size = p := ⟨_, rfl⟩
              rw [hpm] at z1 RM NX
              rw [hps] at z2 RS NX
              have hpm1 : pm.size ≤ 1000000 := by omega
              have hps1 : ps.size ≤ 1000000 := by omega
              have htt1 : tt.size ≤ 1000000 := by omega
              have hss1 : s.size ≤ 1000000 := by omega
              have n1 : ¬ 9223372036854775807 < tt.size + pm.size := by omega
              have n2 : ¬ 9223372036854775807 < tt.size + pm.size + ps.size := by omega
              have n3 : ¬ 9223372036854775807 < tt.size + pm.size + ps.size + s.size := by omega
              clear hpm hps tz z1 z2 hk20 hpm1 hps1 htt1 hss1
              go_wp2_with fail
              first
                | (go_region_held3 (fun w' => w'.cell? ⟨g, off + k * 2 + 1, none⟩ = some (.string s))
                      (first
                        | go_keep
                        | with_reducible exact keep1 bB hgr d1
                        | with_reducible exact keep1 bA hgr d1)
                      (first
                        | (go_at_call 5; (with_reducible refine (RM.out _).mono ?_); rintro e wA ⟨rfl, bA0⟩; have bA : Below wr.heap.size wr wA := (by first | with_reducible exact bB.trans (bA0.mono bB.size) | exact bA0 | exact ((Below.refl _ wr).drew).trans bA0); have HA := hide bA)
                        | (go_at_call 5; (with_reducible refine (RS.out _).mono ?_); rintro e wB ⟨rfl, bB0⟩; have bB : Below wr.heap.size wr wB := (by first | with_reducible exact bA.trans (bB0.mono bA.size) | exact bB0 | exact ((Below.refl _ wr).drew).trans bB0); have HBB := hide bB)))
                | fail "region"
              all_goals
                go_wp2_with fail
                go_roundw
                case rel => exact ⟨k + 1, 0, (m : Int), _, by omega, by go_num, rfl, rfl, rfl, NX, hide (Tj.below_step HB.out (by first | with_reducible assumption | (first | with_reducible exact HA.out | with_reducible exact HBB.out)))⟩
                case measure => simp [intOf]; omega
          · have he' : (ee == 0) = false := by simpa using he
            have NX := hide (WK.out.stay (x := x) HSX.out h50 he)
            clear he
            go_wp2_with fail
            go_roundw
            case rel => exact ⟨k + 1, ee, x, tt, by omega, by go_num, rfl, rfl, rfl, NX, HB⟩
            case measure => simp [intOf]; omega
        · have h50' : (50 : Int) < (s.size : Int) := by omega
          go_wp2_with fail
          go_returns
          exact ⟨rfl, HB.out⟩
      · obtain rfl : k = l.length := by omega
        have hs := WK.out.s
        have HS := hide hs
        obtain ⟨W1, rfl⟩ : ∃ X, X = wr := ⟨_, rfl⟩
        clear hs
        go_wp2_with fail
        refine (join_any A l ca _ (HR.out.below HB.out) h20 HS.out).mono ?_
        rintro e w3 ⟨t3, c3, rfl, hc3, hz3, hn3, b3⟩
        have B3 : Hid (Below W.heap.size W w3) := hide (Tj.below_step HB.out b3)
        by_cases he : ee = 0
        · subst he
          obtain ⟨a, b, c⟩ := WK.out.ok rfl
          rw [chk_end] at a
          rw [pre_all] at b
          obtain rfl : c3 = 0 := hc3.trans a
          have e3 := hn3 rfl
          subst e3
          subst b
          have HC0 := hide a
          have HN : Hid (Nums l) := hide c
          obtain ⟨t, ht⟩ : ∃ t, strOfNums (joinL l) = t := ⟨_, rfl⟩
          have PO := hide (fun w => parts_ok w l h20 HS.out HN.out HC0.out)
          rw [ht] at PO ⊢
          clear hc3 hz3 hn3 a c b3 ht
          go_wp2_with fail
          refine (PO.out _).mono ?_
          rintro e w4 ⟨v, rfl, ho4, b4⟩
          obtain ⟨A4, c4, rfl, r4⟩ := row_own ho4
          have R4 := hide r4
          have B4 : Hid (Below W.heap.size W w4) := hide (Tj.below_step B3.out b4)
          clear ho4 r4 b4
          go_wp2_with fail
          go_loopw [13] (fun x wr => ∃ k : Nat, k ≤ l.length ∧ x = .int .i64 k ∧ Hid (Below w4.heap.size w4 wr)) (fun x _ => l.length - (intOf x).toNat)
          case atStart => exact ⟨0, Nat.zero_le _, rfl, hide (Below.refl _ _)⟩
          case round =>
            obtain ⟨k, hk, rfl, HB5⟩ := hrel
            have hi0 : (0 : Int) ≤ (k : Int) := Int.natCast_nonneg _
            by_cases hlt : k < l.length
            · obtain ⟨g, off, rfl, hg, hc⟩ := HR.out (by omega)
              obtain ⟨d0, d1⟩ := (hc k hlt).below hg (Tj.below_step B4.out HB5.out)
              obtain ⟨g4, off4, rfl, hg4, hc4⟩ := R4.out (by omega)
              obtain ⟨z0, z1⟩ := (hc4 k hlt).below hg4 HB5.out
              obtain ⟨x, hx⟩ : ∃ x, (at_ l k).1 = x := ⟨_, rfl⟩
              obtain ⟨s, hsx⟩ : ∃ s, (at_ l k).2 = s := ⟨_, rfl⟩
              rw [hx] at d0 z0
              rw [hsx] at d1 z1
              have hi1 : (k : Int) < (l.length : Int) := by omega
              clear hc hc4 hx hsx
              go_wp2_with fail
              go_quiet (fail)
              go_wp2_with fail
              go_roundw
              case rel => exact ⟨k + 1, by omega, by go_num, hide ⟨HB5.out.os, HB5.out.tape, HB5.out.output, HB5.out.size, HB5.out.block⟩⟩
              case measure => simp [intOf]; omega
            · obtain rfl : k = l.length := by omega
              go_wp2_with fail
              go_returns
              exact ⟨rfl, Tj.below_step B4.out HB5.out⟩
        · have hb := WK.out.bad he
          obtain rfl : c3 = ee := hc3.trans hb
          have e3 := hz3 he
          subst e3
          have he' : (c3 == 0) = false := by simpa using he
          clear hc3 hz3 hn3 hb b3 he
          go_wp2_with fail
          go_returns
          exact ⟨rfl, B3.out⟩
  · have h20' : (20 : Int) < (l.length : Int) := by omega
    go_enter Tryz.func3, Tryz.ntmps3
    go_wp2_with fail
    refine (known_ok _ hL).mono ?_
    rintro e w1 ⟨rfl, b1⟩
    go_wp2_with fail
    refine (known_ok _ (hL.below b1)).mono ?_
    rintro e w2 ⟨rfl, b2⟩
    go_wp2_with fail
    go_returns
    exact ⟨rfl, Tj.below_step b1 b2⟩
end Go.Proofs.YtdkkblkbonjjgabGreatDoor
