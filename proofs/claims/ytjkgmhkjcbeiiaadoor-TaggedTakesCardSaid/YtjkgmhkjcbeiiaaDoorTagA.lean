/- The reference's Take: the number at an offset, the offset behind it, the error. No condition. -/
import Derived.Test.YtjkgmhkjcbeiiaaDoorProg
import Derived.Test.YtjkgmhkjcbeiiaaDoorTagMath
import Derived.WalkKit
import Derived.WalkLawsBesides
import Derived.WalkSpells
import Derived.Handy
import Derived.Outline
import Derived.LoopTactic
import Derived.Deep.QuietTactic
import Derived.BigQuiet
namespace Go.Proofs.YtjkgmhkjcbeiiaaDoor
open Go Go.RowKit Go.PlainAid

theorem hide {p : Prop} (h : p) : Hid p := h

set_option maxHeartbeats 4000000 in
theorem refTake_any (s : ByteArray) (f K : Nat) (w : World) (hs : s.size ≤ 40) (h : Stop s f K) :
    Calls Tryd.prog 6 #[.string s, .int .i64 f] w fun e w' => (∃ at_ : Int, e = .returned (.tuple #[.int .i64 (takeN s f K).1, .int .i64 (takeN s f K).2.1, .int .i64 at_, .int .i64 (takeN s f K).2.2])) ∧ w' = w := by
  have hb := get_bt s
  have hb0 := bt_nonneg s
  have hb1 := bt_le s
  have h1 := h.le
  have h2 := h.fit
  have H := hide h
  clear h
  go_enter Tryd.func6, Tryd.ntmps6
  go_wp2_with fail
  go_loop [8] (fun i => ∃ k : Nat, k ≤ K ∧ i = .int .i64 ((f + k : Nat) : Int)) (fun i => f + K - (intOf i).toNat)
  case atStart => exact ⟨0, by omega, by simp⟩
  case round =>
    obtain ⟨k, hk, rfl⟩ := hrel
    by_cases hlt : k < K
    · have g := H.out.hi k hlt
      obtain ⟨g1, g2⟩ := g
      go_wp2_with fail
      go_round
      case rel => exact ⟨k + 1, by omega, by go_num⟩
      case measure => simp [intOf]; omega
    · obtain rfl : k = K := by omega
      rcases H.out.parts with ⟨p1, p⟩ | ⟨p1, p2, p⟩ | ⟨p1, p2, p3, p4, p5, p⟩ | ⟨p1, p2, p3, p4, p⟩ | ⟨p1, p2, p3, p4, p5, p6, p⟩
      · have HP := hide p
        clear p
        subst p1
        go_wp2_with fail
        all_goals
          go_returns
          exact ⟨⟨_, by rw [HP.out]; try rfl⟩, rfl⟩
      · have HP := hide p
        clear p
        go_wp2_with fail
        all_goals
          go_returns
          exact ⟨⟨_, by rw [HP.out]; try rfl⟩, rfl⟩
      · have HP := hide p
        clear p
        go_wp2_with fail
        all_goals
          go_returns
          exact ⟨⟨_, by rw [HP.out]; try rfl⟩, rfl⟩
      · have HP := hide p
        clear p
        subst p1
        have p5 : bt s (f + 8) ≠ 0 := by omega
        go_wp2_with fail
        all_goals
          go_returns
          exact ⟨⟨_, by rw [HP.out]; try rfl⟩, rfl⟩
      · have HP := hide p
        clear p
        have P6 := hide p6
        clear p6
        by_cases z : bt s (f + k) = 0
        · obtain rfl : k = 0 := by
            by_cases z0 : k = 0
            · exact z0
            · exact absurd z (p4 (by omega))
          clear p4 p5
          rw [Nat.add_zero] at z p2 p3
          go_wp2_with fail
          go_loop [4, 9] (fun n i => ∃ (j : Nat) (x : Int), j ≤ 0 + 1 ∧ x = (f : Int) + (0 : Nat) - j ∧ i = .int .i64 x ∧ n = .int .i64 (up s f j)) (fun _ i => (intOf i + 1 - f).toNat)
          case atStart => exact ⟨0, (f : Int) + (0 : Nat), by omega, by omega, by simp, rfl⟩
          case round =>
            obtain ⟨j, x, hj, hx, rfl, rfl⟩ := hrel
            by_cases hjk : j ≤ 0
            · obtain rfl : j = 0 := by omega
              obtain rfl : x = (f : Int) := by omega
              have u3 : up s f (0 + 1) = 0 := by simp [up, z]
              have U3 := hide u3
              rw [show up s f 0 = 0 from rfl]
              clear hj hx hjk u3
              go_wp2_with fail
              go_round
              case rel => exact ⟨0 + 1, (f : Int) - 1, by omega, by omega, by go_num, by rw [U3.out]; try go_num⟩
              case measure => simp [intOf]; try omega
            · obtain rfl : j = 0 + 1 := by omega
              obtain rfl : x = (f : Int) - 1 := by omega
              rw [show up s f (0 + 1) = lo s f (0 + 1) from up_all s f 0]
              clear h1 h2 hj hjk z p2 p3
              generalize lo s f (0 + 1) = l at *
              go_wp2_with fail
              go_returns
              exact ⟨⟨_, by rw [HP.out]; try rfl⟩, rfl⟩
        · clear p4
          by_cases y : k = 8
          · subst y
            have p5' := p5 rfl
            clear p5
            go_wp2_with fail
            go_loop [4, 9] (fun n i => ∃ (j : Nat) (x : Int), j ≤ 8 + 1 ∧ x = (f : Int) + (8 : Nat) - j ∧ i = .int .i64 x ∧ n = .int .i64 (up s (f + 8) j)) (fun _ i => (intOf i + 1 - f).toNat)
            case atStart => exact ⟨0, (f : Int) + (8 : Nat), by omega, by omega, by simp, rfl⟩
            case round =>
              obtain ⟨j, x, hj, hx, rfl, rfl⟩ := hrel
              by_cases hjk : j ≤ 8
              · obtain ⟨m, hm⟩ : ∃ m : Nat, f + 8 = m + j := ⟨f + 8 - j, by omega⟩
                obtain rfl : x = (m : Int) := by omega
                have u1 := up_bd s f 8 j hj
                have u2 := up_bd s f 8 (j + 1) (by omega)
                have u3 : up s (f + 8) (j + 1) = up s (f + 8) j * 128 + bt s m % 128 := by simp only [up]; rw [show f + 8 - j = m by omega]
                have u4 := P6.out
                have hm0 := hb0 m
                have hm1 := hb1 m
                have U3 := hide u3
                rw [u3] at u2
                clear u3
                generalize hu : up s (f + 8) j = u at *
                have HU := hide hu
                clear hu
                go_wp2_with fail
                go_round
                case rel => exact ⟨j + 1, (m : Int) - 1, by omega, by omega, by go_num, by rw [U3.out]; try go_num⟩
                case measure => simp [intOf]; omega
              · obtain rfl : j = 8 + 1 := by omega
                rw [up_all] at *
                have l0 := lo_bd s f (8 + 1)
                go_wp2_with fail
                go_returns
                exact ⟨⟨_, by rw [HP.out]; try rfl⟩, rfl⟩
          · clear p5
            go_wp2_with fail
            go_loop [4, 9] (fun n i => ∃ (j : Nat) (x : Int), j ≤ k + 1 ∧ x = (f : Int) + k - j ∧ i = .int .i64 x ∧ n = .int .i64 (up s (f + k) j)) (fun _ i => (intOf i + 1 - f).toNat)
            case atStart => exact ⟨0, (f : Int) + k, by omega, by omega, by simp, rfl⟩
            case round =>
              obtain ⟨j, x, hj, hx, rfl, rfl⟩ := hrel
              by_cases hjk : j ≤ k
              · obtain ⟨m, hm⟩ : ∃ m : Nat, f + k = m + j := ⟨f + k - j, by omega⟩
                obtain rfl : x = (m : Int) := by omega
                have u1 := up_bd s f k j hj
                have u2 := up_bd s f k (j + 1) (by omega)
                have u3 : up s (f + k) (j + 1) = up s (f + k) j * 128 + bt s m % 128 := by simp only [up]; rw [show f + k - j = m by omega]
                have u4 := P6.out
                have hm0 := hb0 m
                have hm1 := hb1 m
                have U3 := hide u3
                rw [u3] at u2
                clear u3
                generalize hu : up s (f + k) j = u at *
                have HU := hide hu
                clear hu
                go_wp2_with fail
                go_round
                case rel => exact ⟨j + 1, (m : Int) - 1, by omega, by omega, by go_num, by rw [U3.out]; try go_num⟩
                case measure => simp [intOf]; omega
              · obtain rfl : j = k + 1 := by omega
                rw [up_all] at *
                have l0 := lo_bd s f (k + 1)
                go_wp2_with fail
                go_returns
                exact ⟨⟨_, by rw [HP.out]; try rfl⟩, rfl⟩
end Go.Proofs.YtjkgmhkjcbeiiaaDoor
