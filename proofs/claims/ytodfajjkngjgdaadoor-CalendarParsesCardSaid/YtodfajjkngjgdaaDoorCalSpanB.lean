/- The texts of durations. Conditions: the tables hold what the program's text lays. -/
import Derived.Test.YtodfajjkngjgdaaDoorCalSpanA
import Derived.Deep.RegionHeld3
namespace Go.Proofs.YtodfajjkngjgdaaDoor
open Go Go.RowKit Go.PlainAid

theorem span_alloc {B : Nat} {a w : World} (h : Below B a w) (o : Obj) (hB : B ≤ w.heap.size) : Below B a (w.alloc o) := h.alloc hB o
theorem span_drew {B : Nat} {a w : World} (h : Below B a w) : Below B a w.drew := ⟨h.os, h.tape, h.output, h.size, h.block⟩
set_option maxHeartbeats 4000000 in
theorem spanText_ok (m : Nat) (w : World) (hl : Laid w) (h0 : m ≠ 0) (hm : m ≤ 17592186044416) :
    Calls Tryd.prog 40 #[.int .i64 m] w fun e w' => ∃ t : ByteArray, e = .returned (.tuple #[.string t, .int .i64 0]) ∧ t.data.toList = partsT (pref m 5) ∧ Below w.heap.size w w' := by
  have q0 : ((m : Int) == 0) = false := by simp; omega
  have i0 : (0 : Int) ≤ (m : Int) := by omega
  have i1 : (m : Int) ≤ 17592186044416 := by omega
  have HL := hide hl
  have HM := hide hm
  clear hl h0
  go_enter Tryd.func40, Tryd.ntmps40
  go_wp2_with fail
  go_loopw [0, 4, 15] (fun a s i wr => ∃ (k r : Nat) (t : ByteArray), k ≤ 5 ∧ i = .int .i64 k ∧ a = .int .i64 r ∧ s = .string t ∧ r ≤ 17592186044416 ∧ t.size ≤ 40 ∧ Hid (r = rem m k) ∧ Hid (t.data.toList = partsT (pref m k)) ∧ Below w.heap.size w wr) (fun _ _ i _ => 5 - (intOf i).toNat)
  case atStart => exact ⟨0, m, ⟨#[]⟩, Nat.zero_le _, rfl, rfl, rfl, hm, by decide, hide rfl, hide rfl, Below.refl _ _⟩
  case round =>
    obtain ⟨k, r, t, hk, rfl, rfl, rfl, hr, hz, hR, hT, hbw⟩ := hrel
    clear q0 i0 i1 hm
    by_cases hlt : k < 5
    · have hl := HL.out.below hbw
      have cN' : wr.cell? ⟨0, k * 2 + 1, none⟩ = some (.int .i64 (unitN k)) := hl.units.at_ (units_num hlt)
      have cT' : wr.cell? ⟨0, k * 2, none⟩ = some (.string ⟨(unitB k).toArray⟩) := hl.units.at_ (units_name hlt)
      have lU := units_lt hl.units
      obtain ⟨ub, hub⟩ : ∃ ub : ByteArray, ub = ⟨(unitB k).toArray⟩ := ⟨_, rfl⟩
      rw [← hub] at cT'
      have zu : ub.size ≤ 2 := by rw [hub]; exact (unitB_len k).2
      have UB := hide hub
      clear hub
      have p0 : (1 : Int) ≤ (unitN k : Int) := by have := unitN_pos k; omega
      have hq : Hid (r / unitN k ≤ 999999) := hide (by rw [hR.out]; exact quo_le m k HM.out (by omega))
      obtain ⟨q, e0⟩ : ∃ q, q = r / unitN k := ⟨_, rfl⟩
      obtain ⟨r', f0⟩ : ∃ r', r' = r % unitN k := ⟨_, rfl⟩
      have e1 : (r : Int) / (unitN k : Int) = (q : Int) := by rw [e0]; simp
      have e2 : (r : Int) % (unitN k : Int) = (r' : Int) := by rw [f0]; simp
      have hq6 : q ≤ 999999 := by rw [e0]; exact hq.out
      have hr' : r' ≤ 17592186044416 := by rw [f0]; exact Nat.le_trans (Nat.mod_le _ _) hr
      have E0 := hide e0
      have F0 := hide f0
      have i2 : (0 : Int) ≤ (k : Int) := by omega
      have i3 : (k : Int) < 5 := by omega
      have HTab := hide hl.tab
      have HU := hide hl.units
      have HB := hide hbw
      have ht8 : t.size ≤ 8 * k := by rw [size_of hT.out]; exact pref_len m HM.out k hk
      clear hl hbw e0 f0 hq
      rcases Nat.eq_zero_or_pos q with hq0 | hq0
      · have e3 : (r : Int) / (unitN k : Int) = 0 := by rw [e1, hq0]; rfl
        have HQ := hide hq0
        clear e1 hq0 hq6
        go_wp2_with fail
        go_roundw
        case rel => exact ⟨k + 1, r', t, by omega, by go_num, by rw [e2], rfl, hr', hz, hide (by rw [F0.out, hR.out]; rfl), hide (by rw [pref, partsT_append, ← hR.out, ← E0.out, HQ.out, hT.out]; simp [one, partsT]), HB.out⟩
        case measure => simp [intOf]; omega
      · have q1 : (0 : Int) < (q : Int) := by omega
        have HQ0 := hide hq0
        clear hq0
        go_wp2_with fail
        go_region_with ((go_at_call 62; (with_reducible refine (itoa_any q _ ?_ (by omega)).mono ?_); (exact HTab.out); rintro e w2 ⟨t', rfl, ht', hb2⟩; have zt : t'.size ≤ 6 := (by rw [size_of ht', Lib.decDigits_length]; exact nDigits6 hq6); have c2 : w2.cell? ⟨0, k * 2, none⟩ = some (.string ub) := (hb2.cell (p := ⟨0, k * 2, none⟩) lU).trans cT'; have c3 : w2.cell? ⟨0, k * 2 + 1, none⟩ = some (.int .i64 (unitN k)) := (hb2.cell (p := ⟨0, k * 2 + 1, none⟩) lU).trans cN'; have HT' := hide ht'; clear ht'))
        all_goals
          have HB2 : Hid (Below w.heap.size w w2) := hide (below_step HB.out (by first | exact hb2 | exact below_step (span_drew (Below.refl _ _)) hb2))
          clear hb2
          go_wp2_with fail
          go_roundw
          case rel =>
            refine ⟨k + 1, r', _, by omega, by go_num, by rw [e2], rfl, hr', ?_, hide (by rw [F0.out, hR.out]; rfl), hide ?_, ?_⟩
            · rw [ByteArray.size_append, ByteArray.size_append]; omega
            · rw [pref, partsT_append, ← hR.out, ← E0.out, ByteArray.data_append, ByteArray.data_append, Array.toList_append, Array.toList_append, hT.out, HT'.out, UB.out, one, if_neg (by have := HQ0.out; omega), partsT, partsT, List.append_nil]
            · first | exact HB2.out | exact span_drew HB2.out
          case measure => simp [intOf]; omega
    · obtain rfl : k = 5 := by omega
      go_wp2_with fail
      go_ret2
      exact ⟨t, rfl, hT.out, hbw⟩

set_option maxHeartbeats 1000000 in
theorem spanText_no (x : Int) (w : World) (h : x < 0 ∨ 17592186044416 < x) :
    Calls Tryd.prog 40 #[.int .i64 x] w fun e w' => e = .returned (.tuple #[.string ⟨#[]⟩, .int .i64 2]) ∧ w' = w := by
  rcases h with h | h
  · go_enter Tryd.func40, Tryd.ntmps40
    go_wp2_with fail
    go_ret2
    exact ⟨rfl, rfl⟩
  · have h' : ¬ x < 0 := by omega
    go_enter Tryd.func40, Tryd.ntmps40
    go_wp2_with fail
    go_ret2
    exact ⟨rfl, rfl⟩
set_option maxHeartbeats 1000000 in
theorem spanText_zero (w : World) :
    Calls Tryd.prog 40 #[.int .i64 0] w fun e w' => e = .returned (.tuple #[.string ⟨#[48, 115]⟩, .int .i64 0]) ∧ w' = w := by
  go_enter Tryd.func40, Tryd.ntmps40
  go_wp2_with fail
  go_ret2
  exact ⟨rfl, rfl⟩
theorem spanT_zero : spanT 0 = [48, 115] := by
  unfold spanT parts
  rw [if_pos rfl, partsT, partsT, digits_lt10 (by decide)]
  rfl
theorem spanText_any (m : Nat) (w : World) (hl : Laid w) (hm : m ≤ 17592186044416) :
    Calls Tryd.prog 40 #[.int .i64 m] w fun e w' => ∃ t : ByteArray, e = .returned (.tuple #[.string t, .int .i64 0]) ∧ t.data.toList = spanT m ∧ Below w.heap.size w w' := by
  by_cases h : m = 0
  · subst h
    refine (spanText_zero w).mono ?_
    rintro e w' ⟨rfl, rfl⟩
    exact ⟨_, rfl, spanT_zero.symm, Below.refl _ _⟩
  · have := spanText_ok m w hl h hm
    unfold spanT parts
    rw [if_neg h]
    exact this
end Go.Proofs.YtodfajjkngjgdaaDoor
