/- What the reference's Covers returns on parts. No condition. -/
import Derived.Test.YtllfeoinmjbeaaaDoorPcDef
namespace Go.Proofs.YtllfeoinmjbeaaaDoor.Pc
open Go Go.RowKit Go.PlainAid

theorem empty_list : (⟨#[]⟩ : ByteArray).toList = [] := by rw [ByteArray.toList_eq]

set_option maxRecDepth 100000 in
set_option maxHeartbeats 40000000 in
theorem refCovers_any (A B : Option Addr) (la lb : List Pt) (ca cb : Nat) (w : World) (ha : PtRow w A la) (hb : PtRow w B lb) (hla : la.length ≤ 20) (hlb : lb.length ≤ 20) :
    Calls Tryd.prog 7 #[.slice A la.length ca, .slice B lb.length cb] w fun e w' => e = .returned (.bool (decide (cov la lb))) ∧ Below w.heap.size w w' := by
  have HA := hide ha
  have HB := hide hb
  clear ha hb
  by_cases hlen : la.length ≤ lb.length
  · have hlen' : ¬ lb.length < la.length := by omega
    go_enter Tryd.func7, Tryd.ntmps7
    go_wp2_with fail
    go_loopw [5] (fun x wr => ∃ k : Nat, k ≤ la.length ∧ x = .int .i64 k ∧ (∀ j, j < k → c1 (atP la j) (atP lb j)) ∧ Below w.heap.size w wr) (fun x _ => la.length - (intOf x).toNat)
    case atStart => exact ⟨0, Nat.zero_le _, rfl, fun j hj => by omega, Below.refl _ _⟩
    case round =>
      obtain ⟨k, hk, rfl, hall, hb⟩ := hrel
      by_cases hlt : k < la.length
      · obtain ⟨g, off, rfl, hg, hc⟩ := HA.out (by omega)
        obtain ⟨g', off', rfl, hg', hc'⟩ := HB.out (by omega)
        obtain ⟨p0, p1, p2⟩ := hc k hlt
        obtain ⟨q0, q1, q2⟩ := hc' k (by omega)
        have d0 := (hb.cell (p := ⟨g, off + k * 3, none⟩) hg).trans p0
        have d1 := (hb.cell (p := ⟨g, off + k * 3 + 1, none⟩) hg).trans p1
        have d2 := (hb.cell (p := ⟨g, off + k * 3 + 2, none⟩) hg).trans p2
        have e0 := (hb.cell (p := ⟨g', off' + k * 3, none⟩) hg').trans q0
        have e1 := (hb.cell (p := ⟨g', off' + k * 3 + 1, none⟩) hg').trans q1
        have e2 := (hb.cell (p := ⟨g', off' + k * 3 + 2, none⟩) hg').trans q2
        obtain ⟨a, b, s, hp⟩ : ∃ a b s, atP la k = (a, b, s) := ⟨_, _, _, rfl⟩
        obtain ⟨a', b', s', hq⟩ : ∃ a b s, atP lb k = (a, b, s) := ⟨_, _, _, rfl⟩
        rw [hp] at d0 d1 d2
        rw [hq] at e0 e1 e2
        simp only at d0 d1 d2 e0 e1 e2
        have hi0 : (0 : Int) ≤ (k : Int) := Int.natCast_nonneg _
        have hi1 : (k : Int) < (la.length : Int) := by omega
        have hi2 : (k : Int) < (lb.length : Int) := by omega
        have HALL := hide hall
        clear p0 p1 p2 q0 q1 q2 hc hc' hall
        have NC : Hid (¬ c1 (a, b, s) (a', b', s') → decide (cov la lb) = false) := hide fun h => decide_eq_false fun hc => h (by rw [← hp, ← hq]; exact hc.2 k hlt)
        have NX : Hid (c1 (a, b, s) (a', b', s') → ∀ j, j < k + 1 → c1 (atP la j) (atP lb j)) := hide fun h j hj => by
          by_cases hjk : j = k
          · subst hjk; rw [hp, hq]; exact h
          · exact HALL.out j (by omega)
        go_wp2_with fail
        have sp : (¬ a = a') ∨ (a = a' ∧ ¬ b = b') ∨ (a = a' ∧ b = b' ∧ ¬ s.toList = s'.toList) ∨ (a = a' ∧ b = b' ∧ s = s') := by
          by_cases f1 : a = a' <;> by_cases f2 : b = b' <;> by_cases f3 : s.toList = s'.toList <;> simp [f1, f2, f3] <;> exact text_eq f3
        rcases sp with f1 | ⟨rfl, f2⟩ | ⟨rfl, rfl, f3⟩ | ⟨rfl, rfl, rfl⟩
        · skip
          by_cases k3 : a = 3
          · subst k3
            by_cases k0 : b = 0
            · subst k0
              by_cases ks : s.toList = []
              · obtain rfl : s = ⟨#[]⟩ := text_eq (by rw [ks, empty_list])
                by_cases k2 : a' = 2
                · subst k2
                  go_quiet (fail)
                  go_wp2_with fail
                  go_roundw
                  case rel => exact ⟨k + 1, by omega, by go_num, NX.out (.inr ⟨⟨rfl, rfl, empty_list⟩, rfl⟩), ⟨hb.os, hb.tape, hb.output, hb.size, hb.block⟩⟩
                  case measure => simp [intOf]; omega
                · have k2' : (a' == 2) = false := by simpa using k2
                  go_quiet (fail)
                  go_wp2_with fail
                  go_returns
                  have hn := NC.out (fun h => h.elim (fun ⟨h1, h2, h3⟩ => f1 h1) (fun ⟨⟨g1, g2, g3⟩, g4⟩ => absurd g4 k2))
                  refine ⟨?_, ⟨hb.os, hb.tape, hb.output, hb.size, hb.block⟩⟩
                  first
                  | (rw [hn]; done)
                  | (rw [hn]; rfl)
                  | simp [hn]
              · have ks' : (s.toList == []) = false := by simpa using ks
                have ks'' : (s.toList == (⟨#[]⟩ : ByteArray).toList) = false := by rw [empty_list]; exact ks'
                go_quiet (fail)
                go_wp2_with fail
                go_returns
                have hn := NC.out (fun h => h.elim (fun ⟨h1, h2, h3⟩ => f1 h1) (fun ⟨⟨g1, g2, g3⟩, g4⟩ => absurd g3 ks))
                refine ⟨?_, ⟨hb.os, hb.tape, hb.output, hb.size, hb.block⟩⟩
                first
                | (rw [hn]; done)
                | (rw [hn]; rfl)
                | simp [hn]
            · have k0' : (b == 0) = false := by simpa using k0
              go_quiet (fail)
              go_wp2_with fail
              go_returns
              have hn := NC.out (fun h => h.elim (fun ⟨h1, h2, h3⟩ => f1 h1) (fun ⟨⟨g1, g2, g3⟩, g4⟩ => absurd g2 k0))
              refine ⟨?_, ⟨hb.os, hb.tape, hb.output, hb.size, hb.block⟩⟩
              first
              | (rw [hn]; done)
              | (rw [hn]; rfl)
              | simp [hn]
          · have k3' : (a == 3) = false := by simpa using k3
            go_quiet (fail)
            go_wp2_with fail
            go_returns
            have hn := NC.out (fun h => h.elim (fun ⟨h1, h2, h3⟩ => f1 h1) (fun ⟨⟨g1, g2, g3⟩, g4⟩ => absurd g1 k3))
            refine ⟨?_, ⟨hb.os, hb.tape, hb.output, hb.size, hb.block⟩⟩
            first
            | (rw [hn]; done)
            | (rw [hn]; rfl)
            | simp [hn]
        · skip
          by_cases k3 : a = 3
          · subst k3
            by_cases k0 : b = 0
            · subst k0
              by_cases ks : s.toList = []
              · obtain rfl : s = ⟨#[]⟩ := text_eq (by rw [ks, empty_list])
                go_quiet (fail)
                go_wp2_with fail
                go_returns
                have hn := NC.out (fun h => h.elim (fun ⟨h1, h2, h3⟩ => f2 h2) (fun ⟨⟨g1, g2, g3⟩, g4⟩ => absurd (show (3 : Int) = 2 from g4) (by decide)))
                refine ⟨?_, ⟨hb.os, hb.tape, hb.output, hb.size, hb.block⟩⟩
                first
                | (rw [hn]; done)
                | (rw [hn]; rfl)
                | simp [hn]
              · have ks' : (s.toList == []) = false := by simpa using ks
                have ks'' : (s.toList == (⟨#[]⟩ : ByteArray).toList) = false := by rw [empty_list]; exact ks'
                go_quiet (fail)
                go_wp2_with fail
                go_returns
                have hn := NC.out (fun h => h.elim (fun ⟨h1, h2, h3⟩ => f2 h2) (fun ⟨⟨g1, g2, g3⟩, g4⟩ => absurd g3 ks))
                refine ⟨?_, ⟨hb.os, hb.tape, hb.output, hb.size, hb.block⟩⟩
                first
                | (rw [hn]; done)
                | (rw [hn]; rfl)
                | simp [hn]
            · have k0' : (b == 0) = false := by simpa using k0
              go_quiet (fail)
              go_wp2_with fail
              go_returns
              have hn := NC.out (fun h => h.elim (fun ⟨h1, h2, h3⟩ => f2 h2) (fun ⟨⟨g1, g2, g3⟩, g4⟩ => absurd g2 k0))
              refine ⟨?_, ⟨hb.os, hb.tape, hb.output, hb.size, hb.block⟩⟩
              first
              | (rw [hn]; done)
              | (rw [hn]; rfl)
              | simp [hn]
          · have k3' : (a == 3) = false := by simpa using k3
            go_quiet (fail)
            go_wp2_with fail
            go_returns
            have hn := NC.out (fun h => h.elim (fun ⟨h1, h2, h3⟩ => f2 h2) (fun ⟨⟨g1, g2, g3⟩, g4⟩ => absurd g1 k3))
            refine ⟨?_, ⟨hb.os, hb.tape, hb.output, hb.size, hb.block⟩⟩
            first
            | (rw [hn]; done)
            | (rw [hn]; rfl)
            | simp [hn]
        · skip
          by_cases k3 : a = 3
          · subst k3
            by_cases k0 : b = 0
            · subst k0
              by_cases ks : s.toList = []
              · obtain rfl : s = ⟨#[]⟩ := text_eq (by rw [ks, empty_list])
                have f3' : ¬ ([] : List UInt8) = s'.toList := by rw [empty_list] at f3; exact f3
                have f3'' : ¬ s'.toList = [] := fun h => f3' h.symm
                go_quiet (fail)
                go_wp2_with fail
                go_returns
                have hn := NC.out (fun h => h.elim (fun ⟨h1, h2, h3⟩ => f3 h3) (fun ⟨⟨g1, g2, g3⟩, g4⟩ => absurd (show (3 : Int) = 2 from g4) (by decide)))
                refine ⟨?_, ⟨hb.os, hb.tape, hb.output, hb.size, hb.block⟩⟩
                first
                | (rw [hn]; done)
                | (rw [hn]; rfl)
                | simp [hn]
              · have ks' : (s.toList == []) = false := by simpa using ks
                have ks'' : (s.toList == (⟨#[]⟩ : ByteArray).toList) = false := by rw [empty_list]; exact ks'
                go_quiet (fail)
                go_wp2_with fail
                go_returns
                have hn := NC.out (fun h => h.elim (fun ⟨h1, h2, h3⟩ => f3 h3) (fun ⟨⟨g1, g2, g3⟩, g4⟩ => absurd g3 ks))
                refine ⟨?_, ⟨hb.os, hb.tape, hb.output, hb.size, hb.block⟩⟩
                first
                | (rw [hn]; done)
                | (rw [hn]; rfl)
                | simp [hn]
            · have k0' : (b == 0) = false := by simpa using k0
              go_quiet (fail)
              go_wp2_with fail
              go_returns
              have hn := NC.out (fun h => h.elim (fun ⟨h1, h2, h3⟩ => f3 h3) (fun ⟨⟨g1, g2, g3⟩, g4⟩ => absurd g2 k0))
              refine ⟨?_, ⟨hb.os, hb.tape, hb.output, hb.size, hb.block⟩⟩
              first
              | (rw [hn]; done)
              | (rw [hn]; rfl)
              | simp [hn]
          · have k3' : (a == 3) = false := by simpa using k3
            go_quiet (fail)
            go_wp2_with fail
            go_returns
            have hn := NC.out (fun h => h.elim (fun ⟨h1, h2, h3⟩ => f3 h3) (fun ⟨⟨g1, g2, g3⟩, g4⟩ => absurd g1 k3))
            refine ⟨?_, ⟨hb.os, hb.tape, hb.output, hb.size, hb.block⟩⟩
            first
            | (rw [hn]; done)
            | (rw [hn]; rfl)
            | simp [hn]
        · go_quiet (fail)
          go_wp2_with fail
          go_roundw
          case rel => exact ⟨k + 1, by omega, by go_num, NX.out (refl1 _), ⟨hb.os, hb.tape, hb.output, hb.size, hb.block⟩⟩
          case measure => simp [intOf]; omega
      · obtain rfl : k = la.length := by omega
        go_wp2_with fail
        go_returns
        exact ⟨by rw [decide_eq_true (show cov la lb from ⟨hlen, hall⟩)]; rfl, hb⟩
  · go_enter Tryd.func7, Tryd.ntmps7
    go_wp2_with fail
    go_returns
    exact ⟨by simp [cov, hlen], Below.refl _ _⟩
end Go.Proofs.YtllfeoinmjbeaaaDoor.Pc
