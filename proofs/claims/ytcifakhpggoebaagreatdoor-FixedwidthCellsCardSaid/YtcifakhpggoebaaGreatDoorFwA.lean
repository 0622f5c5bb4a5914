/- What the small functions of package fixedwidth on widths return. No condition. -/
import Derived.Test.YtcifakhpggoebaaGreatDoorFwRow
namespace Go.Proofs.YtcifakhpggoebaaGreatDoor.Fw
open Go Go.RowKit Go.PlainAid
theorem isWidth_any (x : Int) (w : World) : Calls Tryz.prog 11 #[.int .i64 x] w fun e w' => e = .returned (.bool (decide (isOk x))) ∧ Below w.heap.size w w' := by
  by_cases h1 : 1 ≤ x
  · by_cases h2 : x ≤ 4096
    · have hd : decide (isOk x) = true := decide_eq_true ⟨h1, h2⟩
      rw [hd]
      clear hd
      go_enter Tryz.func11, Tryz.ntmps11
      go_wp2_with fail
      go_returns
      exact ⟨rfl, Below.refl _ _⟩
    · have hd : decide (isOk x) = false := decide_eq_false fun h => h2 h.2
      rw [hd]
      clear hd
      go_enter Tryz.func11, Tryz.ntmps11
      go_wp2_with fail
      go_returns
      exact ⟨rfl, Below.refl _ _⟩
  · have hd : decide (isOk x) = false := decide_eq_false fun h => h1 h.1
    rw [hd]
    clear hd
    go_enter Tryz.func11, Tryz.ntmps11
    go_wp2_with fail
    go_returns
    exact ⟨rfl, Below.refl _ _⟩
theorem bad_any (x : Int) (w : World) : Calls Tryz.prog 10 #[.int .i64 x] w fun e w' => e = .returned (.bool (!decide (isOk x))) ∧ Below w.heap.size w w' := by
  go_enter Tryz.func10, Tryz.ntmps10
  go_wp2_with fail
  refine (isWidth_any x _).mono ?_
  rintro e w1 ⟨rfl, b1⟩
  go_wp2_with fail
  go_returns
  exact ⟨rfl, b1⟩
set_option maxRecDepth 100000 in
set_option maxHeartbeats 4000000 in
theorem indexFunc_any (A : Option Addr) (l : List Int) (c : Nat) (w : World) (hr : Row w A l) (hl : l.length ≤ 1000) :
    Calls Tryz.prog 18 #[.slice A l.length c, .func (.func 10) #[] #[]] w fun e w' => (∃ r : Int, e = .returned (.int .i64 r) ∧ decide (0 ≤ r) = !decide (allOk l)) ∧ Below w.heap.size w w' := by
  have HR := hide hr
  clear hr
  go_enter Tryz.func18, Tryz.ntmps18
  go_wp2_with fail
  go_loopw [8] (fun x wr => ∃ k : Nat, k ≤ l.length ∧ x = .int .i64 k ∧ (∀ j, j < k → isOk (dg l j)) ∧ Below w.heap.size w wr) (fun x _ => l.length - (intOf x).toNat)
  case atStart => exact ⟨0, Nat.zero_le _, rfl, fun j hj => by omega, Below.refl _ _⟩
  case round =>
    obtain ⟨k, hk, rfl, hall, hb⟩ := hrel
    by_cases hlt : k < l.length
    · obtain ⟨g, off, rfl, hg, hc⟩ := HR.out (by omega)
      have d0 := (hb.cell (p := ⟨g, off + k, none⟩) hg).trans (hc k hlt)
      obtain ⟨x, hx⟩ : ∃ x, dg l k = x := ⟨_, rfl⟩
      rw [hx] at d0
      have hi0 : (0 : Int) ≤ (k : Int) := Int.natCast_nonneg _
      have hi1 : (k : Int) < (l.length : Int) := by omega
      have HALL := hide hall
      have HB := hide hb
      clear hc hall hb
      go_wp2_with fail
      refine (bad_any x _).mono ?_
      rintro e w1 ⟨rfl, b1⟩
      have hb1 : Below w.heap.size w w1 := HB.out.trans (b1.mono HB.out.size)
      clear b1
      by_cases ho : isOk x
      · have ho' : decide (isOk x) = true := decide_eq_true ho
        have NX : Hid (∀ j, j < k + 1 → isOk (dg l j)) := hide fun j hj => by
          by_cases hjk : j = k
          · subst hjk; rw [hx]; exact ho
          · exact HALL.out j (by omega)
        clear ho
        go_wp2_with fail
        go_roundw
        case rel => exact ⟨k + 1, by omega, by go_num, NX.out, hb1⟩
        case measure => simp [intOf]; omega
      · have ho' : decide (isOk x) = false := decide_eq_false ho
        have NX : Hid (decide (allOk l) = false) := hide (decide_eq_false fun h => ho (hx ▸ h k hlt))
        clear ho
        go_wp2_with fail
        go_returns
        exact ⟨⟨_, rfl, by rw [NX.out]; simp⟩, hb1⟩
    · obtain rfl : k = l.length := by omega
      have NX : Hid (decide (allOk l) = true) := hide (decide_eq_true hall)
      clear hall
      go_wp2_with fail
      go_returns
      exact ⟨⟨_, rfl, by rw [NX.out]; simp⟩, hb⟩
theorem contains_any (A : Option Addr) (l : List Int) (c : Nat) (w : World) (hr : Row w A l) (hl : l.length ≤ 1000) :
    Calls Tryz.prog 9 #[.slice A l.length c, .func (.func 10) #[] #[]] w fun e w' => e = .returned (.bool (!decide (allOk l))) ∧ Below w.heap.size w w' := by
  go_enter Tryz.func9, Tryz.ntmps9
  go_wp2_with fail
  refine (indexFunc_any A l c _ hr hl).mono ?_
  rintro e w1 ⟨⟨r, rfl, hr⟩, b1⟩
  have HR := hide hr
  clear hr
  go_wp2_with fail
  go_returns
  refine ⟨?_, b1⟩
  rw [← HR.out]
  rfl
set_option maxRecDepth 100000 in
set_option maxHeartbeats 4000000 in
theorem sum_any (A : Option Addr) (l : List Int) (c : Nat) (w : World) (hr : Row w A l) (hl : l.length ≤ 64) (ho : allOk l) :
    Calls Tryz.prog 19 #[.slice A l.length c] w fun e w' => e = .returned (.int .i64 (S l l.length : Nat)) ∧ Below w.heap.size w w' := by
  have HR := hide hr
  have HO := hide ho
  clear hr ho
  go_enter Tryz.func19, Tryz.ntmps19
  go_wp2_with fail
  go_loopw [3, 8] (fun y x wr => ∃ k : Nat, k ≤ l.length ∧ x = .int .i64 k ∧ y = .int .i64 (S l k : Nat) ∧ Below w.heap.size w wr) (fun _ x _ => l.length - (intOf x).toNat)
  case atStart => exact ⟨0, Nat.zero_le _, rfl, by rw [S_zero]; rfl, Below.refl _ _⟩
  case round =>
    obtain ⟨k, hk, rfl, rfl, hb⟩ := hrel
    by_cases hlt : k < l.length
    · obtain ⟨g, off, rfl, hg, hc⟩ := HR.out (by omega)
      have d0 := (hb.cell (p := ⟨g, off + k, none⟩) hg).trans (hc k hlt)
      obtain ⟨x, hx⟩ : ∃ x, dg l k = x := ⟨_, rfl⟩
      rw [hx] at d0
      have hi0 : (0 : Int) ≤ (k : Int) := Int.natCast_nonneg _
      have hi1 : (k : Int) < (l.length : Int) := by omega
      have o1 := HO.out k hlt
      rw [hx] at o1
      have hs := S_le l HO.out k (by omega)
      obtain ⟨o2, o3⟩ := o1
      have NX : Hid (((S l k : Nat) : Int) + x = ((S l (k + 1) : Nat) : Int)) := hide (by rw [S_succ l k hlt, hx]; omega)
      obtain ⟨q, hq⟩ : ∃ q, S l k = q := ⟨_, rfl⟩
      rw [hq] at hs
      have NX' : Hid ((q : Int) + x = ((S l (k + 1) : Nat) : Int)) := hide (by rw [← hq]; exact NX.out)
      rw [hq]
      clear hc NX hq
      go_wp2_with fail
      go_roundw
      case rel => exact ⟨k + 1, by omega, by go_num, by rw [← NX'.out], hb⟩
      case measure => simp [intOf]; omega
    · obtain rfl : k = l.length := by omega
      go_wp2_with fail
      go_returns
      exact ⟨rfl, hb⟩
end Go.Proofs.YtcifakhpggoebaaGreatDoor.Fw
