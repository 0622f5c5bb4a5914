/- The reference's form. No condition. -/
import Derived.Test.YtodfajjkngjgdaaDoorCalP
namespace Go.Proofs.YtodfajjkngjgdaaDoor
open Go Go.RowKit Go.PlainAid

/-- whether a byte is as the pattern's -/
def okAt (s t : ByteArray) (k : Nat) : Prop := (bt t k = 48 ∧ 48 ≤ bt s k ∧ bt s k ≤ 57) ∨ (bt t k ≠ 48 ∧ bt s k = bt t k)
def okTo (s t : ByteArray) (k : Nat) : Prop := ∀ i, i < k → okAt s t i
theorem okTo_more {s t : ByteArray} {k : Nat} (h : okTo s t k) (a : okAt s t k) : okTo s t (k + 1) := by
  intro i hi
  by_cases e : i = k
  · subst e; exact a
  · exact h i (by omega)
open Classical in
noncomputable def formB (s t : ByteArray) : Bool := if s.size = t.size ∧ okTo s t t.size then true else false
theorem formB_yes {s t : ByteArray} (h : s.size = t.size ∧ okTo s t t.size) : formB s t = true := by rw [formB, if_pos h]
theorem formB_no {s t : ByteArray} (h : ¬ (s.size = t.size ∧ okTo s t t.size)) : formB s t = false := by rw [formB, if_neg h]
/-- whether the byte is not as the pattern's -/
def badAt (s t : ByteArray) (k : Nat) (b : Bool) : Prop := (b = true → ¬ okAt s t k) ∧ (b = false → okAt s t k)

set_option maxRecDepth 100000 in
set_option maxHeartbeats 64000000 in
theorem form_any (s t : ByteArray) (w : World) (hm : t.size ≤ 100) :
    Calls Tryd.prog 54 #[.string s, .string t] w fun e w' => e = .returned (.bool (formB s t)) ∧ Below w.heap.size w w' := by
  by_cases hz : s.size = t.size
  · have hb := get_bt s
    have hc := get_bt t
    have hb0 := bt_nonneg s
    have hb1 := bt_le s
    have hc0 := bt_nonneg t
    have hc1 := bt_le t
    have HZ := hide hz
    have hz1 : (s.size : Int) = (t.size : Int) := by omega
    go_enter Tryd.func54, Tryd.ntmps54
    go_wp2_with fail
    go_loopg [5] t.size (fun gk i wr => ∃ k : Nat, k ≤ t.size ∧ gk = t.size - k ∧ i = .int .i64 k ∧ Hid (okTo s t k) ∧ Below w.heap.size w wr)
    case atStart => exact ⟨0, by omega, rfl, rfl, fun i hi => by omega, Below.refl _ _⟩
    case round =>
      obtain ⟨k, hk, hgk, rfl, hO, hbw⟩ := hrel
      have HGK := hide hgk
      have HB := hide hbw
      clear hgk hbw
      by_cases hlt : k < t.size
      · have hls : k < s.size := by omega
        have i0 : (0 : Int) ≤ (k : Int) := by omega
        have i1 : (k : Int) < (t.size : Int) := by omega
        have i2 : (k : Int) < (s.size : Int) := by omega
        clear hz hz1
        go_upto_region 6 with fail
        go_cut [47] (fun v w0 => ∃ wx : World, wx = w0 ∧ (∃ b, v = .bool b ∧ badAt s t k b) ∧ Below w.heap.size w wx)
        case first =>
          by_cases p : bt t k = 48
          · have p1 : (bt t k == 48) = true := by simp [p]
            have p2 : (bt t k != 48) = false := by simp [p]
            by_cases lo : bt s k < 48
            · have N : Hid (¬ okAt s t k) := hide (by unfold okAt; omega)
              clear p
              go_quiet (fail)
              go_wp2_with fail
              go_meet
              exact ⟨_, rfl, ⟨true, rfl, (fun _ => N.out), (fun h => by cases h)⟩, by first | exact HB.out | exact below_drewN HB.out _⟩
            · by_cases hi : 57 < bt s k
              · have N : Hid (¬ okAt s t k) := hide (by unfold okAt; omega)
                clear p
                go_quiet (fail)
                go_wp2_with fail
                go_meet
                exact ⟨_, rfl, ⟨true, rfl, (fun _ => N.out), (fun h => by cases h)⟩, by first | exact HB.out | exact below_drewN HB.out _⟩
              · have N : Hid (okAt s t k) := hide (by unfold okAt; omega)
                clear p
                go_quiet (fail)
                go_wp2_with fail
                go_meet
                exact ⟨_, rfl, ⟨false, rfl, (fun h => by cases h), fun _ => N.out⟩, by first | exact HB.out | exact below_drewN HB.out _⟩
          · have p1 : (bt t k == 48) = false := by simp [p]
            have p2 : (bt t k != 48) = true := by simp [p]
            by_cases e : bt s k = bt t k
            · have N : Hid (okAt s t k) := hide (by unfold okAt; omega)
              have e1 : (bt s k == bt t k) = true := by simp [e]
              have e2 : (bt s k != bt t k) = false := by simp [e]
              clear p e
              go_quiet (fail)
              go_wp2_with fail
              go_meet
              exact ⟨_, rfl, ⟨false, rfl, (fun h => by cases h), fun _ => N.out⟩, by first | exact HB.out | exact below_drewN HB.out _⟩
            · have N : Hid (¬ okAt s t k) := hide (by unfold okAt; omega)
              have e1 : (bt s k == bt t k) = false := by simp [e]
              have e2 : (bt s k != bt t k) = true := by simp [e]
              clear p e
              go_quiet (fail)
              go_wp2_with fail
              go_meet
              exact ⟨_, rfl, ⟨true, rfl, (fun _ => N.out), (fun h => by cases h)⟩, by first | exact HB.out | exact below_drewN HB.out _⟩
        case rest =>
          obtain ⟨wx, hwx, ⟨b, rfl, hbad⟩, hbx⟩ := hcut
          subst hwx
          have BD := hide hbad
          have HBX := hide hbx
          clear hbad hbx
          cases hbb : b with
          | true =>
            have N := hide (formB_no (s := s) (t := t) fun hh => BD.out.1 hbb (hh.2 k hlt))
            clear hbb
            go_wp2_with fail
            go_ret
            exact ⟨by rw [N.out]; rfl, HBX.out⟩
          | false =>
            have N := hide (okTo_more hO.out (BD.out.2 hbb))
            clear hbb
            go_wp2_with fail
            go_roundg (t.size - (k + 1))
            case measure => rw [HGK.out]; omega
            case rel => exact ⟨k + 1, by omega, rfl, by go_num, N, HBX.out⟩
      · have hkt : k = t.size := by omega
        have N := hide (formB_yes (s := s) (t := t) ⟨HZ.out, by rw [← hkt]; exact hO.out⟩)
        have i1 : ¬ (k : Int) < (s.size : Int) := by omega
        clear hkt hz hz1
        go_wp2_with fail
        go_ret
        exact ⟨by rw [N.out]; rfl, HB.out⟩
  · have N := hide (formB_no (s := s) (t := t) fun hh => hz hh.1)
    have q : ((s.size : Int) == (t.size : Int)) = false := by simp; omega
    have q2 : ((s.size : Int) != (t.size : Int)) = true := by simp; omega
    clear hz
    go_enter Tryd.func54, Tryd.ntmps54
    go_wp2_with fail
    go_ret
    exact ⟨by rw [N.out]; rfl, Below.refl _ _⟩
end Go.Proofs.YtodfajjkngjgdaaDoor
