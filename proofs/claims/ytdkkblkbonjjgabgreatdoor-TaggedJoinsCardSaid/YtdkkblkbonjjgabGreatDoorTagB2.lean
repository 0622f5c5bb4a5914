/- The reader's number: what it returns for any text of at most 100000 bytes, and where it writes. No condition. -/
import Derived.Test.YtdkkblkbonjjgabGreatDoorProg
import Derived.Test.YtdkkblkbonjjgabGreatDoorTagMath
import Derived.WalkKit
import Derived.WalkLawsBesides
import Derived.WalkSpells
import Derived.Handy
import Derived.Outline
import Derived.LoopTactic
import Derived.Deep.QuietTactic
import Derived.BigQuiet
namespace Go.Proofs.YtdkkblkbonjjgabGreatDoor.TagB2
open Go Go.RowKit Go.PlainAid

theorem hide {p : Prop} (h : p) : Hid p := h
/-- a reader lies in block r -/
structure Rd (w : World) (r : Nat) (s : ByteArray) (f : Int) (e : Int) : Prop where
  c0 : w.cell? ⟨r, 0, none⟩ = some (.string s)
  c1 : w.cell? ⟨r, 1, none⟩ = some (.int .i64 f)
  c2 : w.cell? ⟨r, 2, none⟩ = some (.int .i64 e)
  c3 : ∃ x, w.cell? ⟨r, 3, none⟩ = some x
  f1 : w.frozen? ⟨r, 1, none⟩ = false
  f2 : w.frozen? ⟨r, 2, none⟩ = false
  f3 : w.frozen? ⟨r, 3, none⟩ = false

set_option maxHeartbeats 1000000 in
theorem fail_ok (r : Nat) (s : ByteArray) (f a e : Int) (w : World) (h : Rd w r s f 0) :
    Calls Tryz.prog 23 #[.pointer (some ⟨r, 0, none⟩), .int .i64 a, .int .i64 e] w fun x w' => x = .returned (.tuple #[]) ∧ w' = (w.setCell ⟨r, 2, none⟩ (.int .i64 e)).setCell ⟨r, 3, none⟩ (.int .i64 a) := by
  obtain ⟨h0, h1, h2, ⟨x3, h3⟩, f1, f2, f3⟩ := h
  have hlt := World.block_lt_of_cell? w _ h0
  go_enter Tryz.func23, Tryz.ntmps23
  go_wp2_with fail
  go_returns
  exact ⟨rfl, rfl⟩
theorem Rd.failed {r : Nat} {s : ByteArray} {f a e : Int} {w : World} (h : Rd w r s f 0) : Rd ((w.setCell ⟨r, 2, none⟩ (.int .i64 e)).setCell ⟨r, 3, none⟩ (.int .i64 a)) r s f e := by
  obtain ⟨h0, h1, h2, ⟨x3, h3⟩, f1, f2, f3⟩ := h
  refine ⟨?_, ?_, ?_, ⟨.int .i64 a, ?_⟩, by simpa [go_sem] using f1, by simpa [go_sem] using f2, by simpa [go_sem] using f3⟩
  · rw [World.cell?_setCell_other _ _ _ _ (by simp), World.cell?_setCell_other _ _ _ _ (by simp)]; exact h0
  · rw [World.cell?_setCell_other _ _ _ _ (by simp), World.cell?_setCell_other _ _ _ _ (by simp)]; exact h1
  · rw [World.cell?_setCell_other _ _ _ _ (by simp)]; exact World.cell?_setCell_same _ _ _ h2
  · exact World.cell?_setCell_same (u := x3) _ _ _ (by rw [World.cell?_setCell_other _ _ _ _ (by simp)]; exact h3)

theorem Rd.drewN {r : Nat} {s : ByteArray} {f e : Int} {w : World} (h : Rd w r s f e) (n : Nat) : Rd (w.drewN n) r s f e := ⟨h.c0, h.c1, h.c2, h.c3, h.f1, h.f2, h.f3⟩
theorem or_step {l b p : Int} (k : Nat) (hk : k ≤ 8) (hp : p = (128 : Int) ^ k) (h0 : 0 ≤ l) (h1 : l < (128 : Int) ^ k) (h2 : 0 ≤ b) (h3 : b < 128) : bits BinOp.or IntKind.i64 l (b * p) = l + b * p := by
  obtain ⟨l, rfl⟩ := Int.eq_ofNat_of_zero_le h0
  obtain ⟨b, rfl⟩ := Int.eq_ofNat_of_zero_le h2
  have hq : p = ((2 ^ (7 * k) : Nat) : Int) := by rw [hp, Nat.pow_mul]; simp
  rw [← hp, hq] at h1
  have h1' : l < 2 ^ (7 * k) := by exact_mod_cast h1
  have hz : 2 ^ (7 * k) ≤ 2 ^ 56 := Nat.pow_le_pow_right (by decide) (by omega)
  have hm : b * 2 ^ (7 * k) ≤ 127 * 2 ^ 56 := Nat.mul_le_mul (by omega) hz
  have hx : (b : Int) * p = ((b * 2 ^ (7 * k) : Nat) : Int) := by rw [hq]; simp
  have hj : l ||| b * 2 ^ (7 * k) = l + b * 2 ^ (7 * k) := by
    have := Nat.two_pow_add_eq_or_of_lt h1' b
    rw [Nat.or_comm, Nat.mul_comm b, ← this, Nat.add_comm]
  rw [hx]
  generalize b * 2 ^ (7 * k) = c at *
  have ha : (BitVec.ofInt 64 (l : Int)).toNat = l := by rw [BitVec.toNat_ofInt]; omega
  have hb : (BitVec.ofInt 64 (c : Int)).toNat = c := by rw [BitVec.toNat_ofInt]; omega
  show IntKind.i64.wrap (((BitVec.ofInt 64 (l : Int)) ||| (BitVec.ofInt 64 (c : Int))).toNat : Int) = _
  rw [BitVec.toNat_or, ha, hb, hj, IntKind.wrap_i64]
  omega
theorem below_set {n : Nat} {W X : World} (h : Below n W X) {b o : Nat} (hb : n ≤ b) (v : Value) : Below n W (X.setCell ⟨b, o, none⟩ v) := h.setCell hb v
theorem or_lo (s : ByteArray) (f k : Nat) (hk : k ≤ 8) (p : Int) (hp : p = (128 : Int) ^ k) : bits BinOp.or IntKind.i64 (lo s f k) (bt s (f + k) % 128 * p) = lo s f (k + 1) := by
  have h := lo_bd s f k
  rw [or_step k hk hp h.1 h.2 (Int.emod_nonneg _ (by decide)) (by omega), hp]
  rfl

/-- what number comes to -/
def NumPost (s : ByteArray) (f K r : Nat) (w : World) (e : Ending) (w' : World) : Prop :=
  e = .returned (.int .i64 (takeN s f K).1) ∧ (∃ p, Rd w' r s p (takeN s f K).2.2 ∧ ((takeN s f K).2.2 = 0 → p = (takeN s f K).2.1)) ∧ (∀ n, n ≤ r → Below n w w') ∧ ((takeN s f K).2.2 = 0 → ∃ m, w' = (w.drewN m).setCell ⟨r, 1, none⟩ (.int .i64 (takeN s f K).2.1))
theorem NumPost.bad {s : ByteArray} {f K r : Nat} {w : World} {m : Nat} {x a : Int} (hx : x ≠ 0) (h : takeN s f K = (0, 0, x)) (hR : Rd w r s f 0) :
    NumPost s f K r w (.returned (.int .i64 0)) (((w.drewN m).setCell ⟨r, 2, none⟩ (.int .i64 x)).setCell ⟨r, 3, none⟩ (.int .i64 a)) := by
  unfold NumPost
  rw [h]
  exact ⟨rfl, ⟨f, (hR.drewN m).failed, fun y => absurd y hx⟩, fun n hn => below_set (below_set (below_drewN (Below.refl _ _) _) hn _) hn _, fun y => absurd y hx⟩
theorem NumPost.good {s : ByteArray} {f K r : Nat} {w : World} {m : Nat} {q n : Int} (h : takeN s f K = (n, q, 0)) (hR : Rd w r s f 0) :
    NumPost s f K r w (.returned (.int .i64 n)) ((w.drewN m).setCell ⟨r, 1, none⟩ (.int .i64 q)) := by
  unfold NumPost
  rw [h]
  have hD := hR.drewN m
  obtain ⟨h0, h1, h2, ⟨x3, h3⟩, f1, f2, f3⟩ := hD
  refine ⟨rfl, ⟨q, ⟨?_, ?_, ?_, ⟨x3, ?_⟩, by simpa [go_sem] using f1, by simpa [go_sem] using f2, by simpa [go_sem] using f3⟩, fun _ => rfl⟩, fun n hn => below_set (below_drewN (Below.refl _ _) _) hn _, fun _ => ⟨m, rfl⟩⟩
  · rw [World.cell?_setCell_other _ _ _ _ (by simp)]; exact h0
  · exact World.cell?_setCell_same _ _ _ h1
  · rw [World.cell?_setCell_other _ _ _ _ (by simp)]; exact h2
  · rw [World.cell?_setCell_other _ _ _ _ (by simp)]; exact h3

set_option maxHeartbeats 16000000 in
theorem number_any (r : Nat) (s : ByteArray) (f K : Nat) (w : World) (hs : s.size ≤ 100000) (h : Stop s f K) (hR : Rd w r s f 0) :
    Calls Tryz.prog 22 #[.pointer (some ⟨r, 0, none⟩)] w (NumPost s f K r w) := by
  have HR := hide hR
  obtain ⟨r0, r1, r2, ⟨x3, r3⟩, q1, q2, q3⟩ := hR
  have hlt := World.block_lt_of_cell? w _ r0
  have hb := get_bt s
  have hb0 := bt_nonneg s
  have hb1 := bt_le s
  have h1 := h.le
  have h2 := h.fit
  have H := hide h
  clear h
  go_enter Tryz.func22, Tryz.ntmps22
  go_wp2_with fail
  go_loopw [3, 11] (fun n i wr => ∃ k m : Nat, k ≤ K ∧ i = .int .i64 (k : Int) ∧ n = .int .i64 (lo s f k) ∧ wr = w.drewN m) (fun _ i _ => 9 - (intOf i).toNat)
  case atStart => exact ⟨0, 0, by omega, rfl, rfl, rfl⟩
  case round =>
    obtain ⟨k, m, hk, rfl, rfl, rfl⟩ := hrel
    by_cases hlt : k < K
    · obtain ⟨g1, g2⟩ := H.out.hi k hlt
      have m0 := hb0 (f + k)
      have m1 := hb1 (f + k)
      have hk8 : k ≤ 8 := by omega
      have HO := fun p hp => hide (or_lo s f k hk8 p hp)
      clear hk8
      have : k = 0 ∨ k = 1 ∨ k = 2 ∨ k = 3 ∨ k = 4 ∨ k = 5 ∨ k = 6 ∨ k = 7 ∨ k = 8 := by omega
      rcases this with rfl | rfl | rfl | rfl | rfl | rfl | rfl | rfl | rfl
      · have HO' : Hid (bits BinOp.or IntKind.i64 (lo s f 0) (bt s f % 128) = lo s f (0 + 1)) := by
          have := (HO 1 (by decide)).out
          rw [Int.mul_one] at this
          exact this
        clear HO
        rw [Nat.add_zero] at g1 g2 m0 m1
        generalize lo s f 0 = l at *
        go_wp2_with fail
        go_quiet (fail)
        go_wp2_with fail
        go_quiet (fail)
        go_wp2_with fail
        go_round
        case rel => exact ⟨0 + 1, _, by omega, by go_num, by first | rw [← HO'.out] | (rw [← HO'.out]; go_num), rfl⟩
        case measure => simp [intOf]
      · have HO' := HO 128 (by decide)
        clear HO
        generalize lo s f 1 = l at *
        go_wp2_with fail
        go_quiet (fail)
        go_wp2_with fail
        go_quiet (fail)
        go_wp2_with fail
        go_round
        case rel => exact ⟨1 + 1, _, by omega, by go_num, by first | rw [← HO'.out] | (rw [← HO'.out]; go_num), rfl⟩
        case measure => simp [intOf]
      · have HO' := HO 16384 (by decide)
        clear HO
        generalize lo s f 2 = l at *
        go_wp2_with fail
        go_quiet (fail)
        go_wp2_with fail
        go_quiet (fail)
        go_wp2_with fail
        go_round
        case rel => exact ⟨2 + 1, _, by omega, by go_num, by first | rw [← HO'.out] | (rw [← HO'.out]; go_num), rfl⟩
        case measure => simp [intOf]
      · have HO' := HO 2097152 (by decide)
        clear HO
        generalize lo s f 3 = l at *
        go_wp2_with fail
        go_quiet (fail)
        go_wp2_with fail
        go_quiet (fail)
        go_wp2_with fail
        go_round
        case rel => exact ⟨3 + 1, _, by omega, by go_num, by first | rw [← HO'.out] | (rw [← HO'.out]; go_num), rfl⟩
        case measure => simp [intOf]
      · have HO' := HO 268435456 (by decide)
        clear HO
        generalize lo s f 4 = l at *
        go_wp2_with fail
        go_quiet (fail)
        go_wp2_with fail
        go_quiet (fail)
        go_wp2_with fail
        go_round
        case rel => exact ⟨4 + 1, _, by omega, by go_num, by first | rw [← HO'.out] | (rw [← HO'.out]; go_num), rfl⟩
        case measure => simp [intOf]
      · have HO' := HO 34359738368 (by decide)
        clear HO
        generalize lo s f 5 = l at *
        go_wp2_with fail
        go_quiet (fail)
        go_wp2_with fail
        go_quiet (fail)
        go_wp2_with fail
        go_round
        case rel => exact ⟨5 + 1, _, by omega, by go_num, by first | rw [← HO'.out] | (rw [← HO'.out]; go_num), rfl⟩
        case measure => simp [intOf]
      · have HO' := HO 4398046511104 (by decide)
        clear HO
        generalize lo s f 6 = l at *
        go_wp2_with fail
        go_quiet (fail)
        go_wp2_with fail
        go_quiet (fail)
        go_wp2_with fail
        go_round
        case rel => exact ⟨6 + 1, _, by omega, by go_num, by first | rw [← HO'.out] | (rw [← HO'.out]; go_num), rfl⟩
        case measure => simp [intOf]
      · have HO' := HO 562949953421312 (by decide)
        clear HO
        generalize lo s f 7 = l at *
        go_wp2_with fail
        go_quiet (fail)
        go_wp2_with fail
        go_quiet (fail)
        go_wp2_with fail
        go_round
        case rel => exact ⟨7 + 1, _, by omega, by go_num, by first | rw [← HO'.out] | (rw [← HO'.out]; go_num), rfl⟩
        case measure => simp [intOf]
      · have HO' := HO 72057594037927936 (by decide)
        clear HO
        generalize lo s f 8 = l at *
        go_wp2_with fail
        go_quiet (fail)
        go_wp2_with fail
        go_quiet (fail)
        go_wp2_with fail
        go_round
        case rel => exact ⟨8 + 1, _, by omega, by go_num, by first | rw [← HO'.out] | (rw [← HO'.out]; go_num), rfl⟩
        case measure => simp [intOf]
    · obtain rfl : k = K := by omega
      rcases H.out.parts with ⟨p1, p⟩ | ⟨p1, p2, p⟩ | ⟨p1, p2, p3, p4, p5, p⟩ | ⟨p1, p2, p3, p4, p⟩ | ⟨p1, p2, p3, p4, p5, p6, p⟩
      · have HP := hide p
        clear p
        subst p1
        go_wp2_with fail
        refine (fail_ok _ _ _ _ _ _ (HR.out.drewN _)).mono ?_
        rintro e w' ⟨rfl, rfl⟩
        go_wp2_with fail
        go_returns
        exact NumPost.bad (by decide) HP.out HR.out
      · have HP := hide p
        clear p
        go_wp2_with fail
        go_quiet (fail)
        go_wp2_with fail
        refine (fail_ok _ _ _ _ _ _ (HR.out.drewN _)).mono ?_
        rintro e w' ⟨rfl, rfl⟩
        go_wp2_with fail
        go_returns
        exact NumPost.bad (by decide) HP.out HR.out
      · have HP := hide p
        clear p
        have m0 := hb0 (f + k)
        have m1 := hb1 (f + k)
        have HO := fun p hp => hide (or_lo s f k p1 p hp)
        have : k = 0 ∨ k = 1 ∨ k = 2 ∨ k = 3 ∨ k = 4 ∨ k = 5 ∨ k = 6 ∨ k = 7 ∨ k = 8 := by omega
        clear p1
        rcases this with rfl | rfl | rfl | rfl | rfl | rfl | rfl | rfl | rfl
        · omega
        · clear HO
          generalize lo s f 1 = l at *
          go_wp2_with fail
          go_quiet (fail)
          go_wp2_with fail
          go_quiet (fail)
          go_wp2_with fail
          refine (fail_ok _ _ _ _ _ _ (HR.out.drewN _)).mono ?_
          rintro e w' ⟨rfl, rfl⟩
          go_wp2_with fail
          go_returns
          exact NumPost.bad (by decide) HP.out HR.out
        · clear HO
          generalize lo s f 2 = l at *
          go_wp2_with fail
          go_quiet (fail)
          go_wp2_with fail
          go_quiet (fail)
          go_wp2_with fail
          refine (fail_ok _ _ _ _ _ _ (HR.out.drewN _)).mono ?_
          rintro e w' ⟨rfl, rfl⟩
          go_wp2_with fail
          go_returns
          exact NumPost.bad (by decide) HP.out HR.out
        · clear HO
          generalize lo s f 3 = l at *
          go_wp2_with fail
          go_quiet (fail)
          go_wp2_with fail
          go_quiet (fail)
          go_wp2_with fail
          refine (fail_ok _ _ _ _ _ _ (HR.out.drewN _)).mono ?_
          rintro e w' ⟨rfl, rfl⟩
          go_wp2_with fail
          go_returns
          exact NumPost.bad (by decide) HP.out HR.out
        · clear HO
          generalize lo s f 4 = l at *
          go_wp2_with fail
          go_quiet (fail)
          go_wp2_with fail
          go_quiet (fail)
          go_wp2_with fail
          refine (fail_ok _ _ _ _ _ _ (HR.out.drewN _)).mono ?_
          rintro e w' ⟨rfl, rfl⟩
          go_wp2_with fail
          go_returns
          exact NumPost.bad (by decide) HP.out HR.out
        · clear HO
          generalize lo s f 5 = l at *
          go_wp2_with fail
          go_quiet (fail)
          go_wp2_with fail
          go_quiet (fail)
          go_wp2_with fail
          refine (fail_ok _ _ _ _ _ _ (HR.out.drewN _)).mono ?_
          rintro e w' ⟨rfl, rfl⟩
          go_wp2_with fail
          go_returns
          exact NumPost.bad (by decide) HP.out HR.out
        · clear HO
          generalize lo s f 6 = l at *
          go_wp2_with fail
          go_quiet (fail)
          go_wp2_with fail
          go_quiet (fail)
          go_wp2_with fail
          refine (fail_ok _ _ _ _ _ _ (HR.out.drewN _)).mono ?_
          rintro e w' ⟨rfl, rfl⟩
          go_wp2_with fail
          go_returns
          exact NumPost.bad (by decide) HP.out HR.out
        · clear HO
          generalize lo s f 7 = l at *
          go_wp2_with fail
          go_quiet (fail)
          go_wp2_with fail
          go_quiet (fail)
          go_wp2_with fail
          refine (fail_ok _ _ _ _ _ _ (HR.out.drewN _)).mono ?_
          rintro e w' ⟨rfl, rfl⟩
          go_wp2_with fail
          go_returns
          exact NumPost.bad (by decide) HP.out HR.out
        · clear HO
          generalize lo s f 8 = l at *
          go_wp2_with fail
          go_quiet (fail)
          go_wp2_with fail
          go_quiet (fail)
          go_wp2_with fail
          refine (fail_ok _ _ _ _ _ _ (HR.out.drewN _)).mono ?_
          rintro e w' ⟨rfl, rfl⟩
          go_wp2_with fail
          go_returns
          exact NumPost.bad (by decide) HP.out HR.out
      · have HP := hide p
        clear p
        subst p1
        have m0 := hb0 (f + 8)
        have m1 := hb1 (f + 8)
        have hbig := (lo_big s f 8 (by omega) p3).mpr ⟨rfl, p4⟩
        rw [← or_lo s f 8 (by omega) 72057594037927936 (by decide)] at hbig
        generalize lo s f 8 = l at *
        go_wp2_with fail
        go_quiet (fail)
        go_wp2_with fail
        go_quiet (fail)
        go_wp2_with fail
        refine (fail_ok _ _ _ _ _ _ (HR.out.drewN _)).mono ?_
        rintro e w' ⟨rfl, rfl⟩
        go_wp2_with fail
        go_returns
        exact NumPost.bad (by decide) HP.out HR.out
      · have HP := hide p
        clear p
        have m0 := hb0 (f + k)
        have m1 := hb1 (f + k)
        have HO := fun p hp => hide (or_lo s f k p1 p hp)
        have : k = 0 ∨ k = 1 ∨ k = 2 ∨ k = 3 ∨ k = 4 ∨ k = 5 ∨ k = 6 ∨ k = 7 ∨ k = 8 := by omega
        clear p1
        rcases this with rfl | rfl | rfl | rfl | rfl | rfl | rfl | rfl | rfl
        · have HO' : bits BinOp.or IntKind.i64 (lo s f 0) (bt s f % 128) = lo s f (0 + 1) := by
            have := (HO 1 (by decide)).out
            rw [Int.mul_one] at this
            exact this
          have hle := p6
          rw [← HO'] at hle
          clear HO p4 p5 p6
          rw [Nat.add_zero] at p2 p3 m0 m1
          by_cases z : bt s f = 0
          · rw [z, show (0 : Int) % 128 = 0 from rfl] at HO' hle
            have HO := hide HO'
            clear HO'
            generalize lo s f 0 = l at *
            go_wp2_with fail
            go_quiet (fail)
            go_wp2_with fail
            go_quiet (fail)
            go_wp2_with fail
            go_returns
            rw [HO.out]
            exact NumPost.good HP.out HR.out
          · have HO := hide HO'
            clear HO'
            generalize lo s f 0 = l at *
            go_wp2_with fail
            go_quiet (fail)
            go_wp2_with fail
            go_quiet (fail)
            go_wp2_with fail
            go_returns
            rw [HO.out]
            exact NumPost.good HP.out HR.out
        · have hle := p6
          rw [← (HO 128 (by decide)).out] at hle
          have HO' := HO 128 (by decide)
          have p4' : bt s (f + 1) ≠ 0 := p4 (by omega)
          clear HO p4 p5 p6
          generalize lo s f 1 = l at *
          go_wp2_with fail
          go_quiet (fail)
          go_wp2_with fail
          go_quiet (fail)
          go_wp2_with fail
          all_goals
            go_returns
            rw [HO'.out]
            exact NumPost.good HP.out HR.out
        · have hle := p6
          rw [← (HO 16384 (by decide)).out] at hle
          have HO' := HO 16384 (by decide)
          have p4' : bt s (f + 2) ≠ 0 := p4 (by omega)
          clear HO p4 p5 p6
          generalize lo s f 2 = l at *
          go_wp2_with fail
          go_quiet (fail)
          go_wp2_with fail
          go_quiet (fail)
          go_wp2_with fail
          all_goals
            go_returns
            rw [HO'.out]
            exact NumPost.good HP.out HR.out
        · have hle := p6
          rw [← (HO 2097152 (by decide)).out] at hle
          have HO' := HO 2097152 (by decide)
          have p4' : bt s (f + 3) ≠ 0 := p4 (by omega)
          clear HO p4 p5 p6
          generalize lo s f 3 = l at *
          go_wp2_with fail
          go_quiet (fail)
          go_wp2_with fail
          go_quiet (fail)
          go_wp2_with fail
          all_goals
            go_returns
            rw [HO'.out]
            exact NumPost.good HP.out HR.out
        · have hle := p6
          rw [← (HO 268435456 (by decide)).out] at hle
          have HO' := HO 268435456 (by decide)
          have p4' : bt s (f + 4) ≠ 0 := p4 (by omega)
          clear HO p4 p5 p6
          generalize lo s f 4 = l at *
          go_wp2_with fail
          go_quiet (fail)
          go_wp2_with fail
          go_quiet (fail)
          go_wp2_with fail
          all_goals
            go_returns
            rw [HO'.out]
            exact NumPost.good HP.out HR.out
        · have hle := p6
          rw [← (HO 34359738368 (by decide)).out] at hle
          have HO' := HO 34359738368 (by decide)
          have p4' : bt s (f + 5) ≠ 0 := p4 (by omega)
          clear HO p4 p5 p6
          generalize lo s f 5 = l at *
          go_wp2_with fail
          go_quiet (fail)
          go_wp2_with fail
          go_quiet (fail)
          go_wp2_with fail
          all_goals
            go_returns
            rw [HO'.out]
            exact NumPost.good HP.out HR.out
        · have hle := p6
          rw [← (HO 4398046511104 (by decide)).out] at hle
          have HO' := HO 4398046511104 (by decide)
          have p4' : bt s (f + 6) ≠ 0 := p4 (by omega)
          clear HO p4 p5 p6
          generalize lo s f 6 = l at *
          go_wp2_with fail
          go_quiet (fail)
          go_wp2_with fail
          go_quiet (fail)
          go_wp2_with fail
          all_goals
            go_returns
            rw [HO'.out]
            exact NumPost.good HP.out HR.out
        · have hle := p6
          rw [← (HO 562949953421312 (by decide)).out] at hle
          have HO' := HO 562949953421312 (by decide)
          have p4' : bt s (f + 7) ≠ 0 := p4 (by omega)
          clear HO p4 p5 p6
          generalize lo s f 7 = l at *
          go_wp2_with fail
          go_quiet (fail)
          go_wp2_with fail
          go_quiet (fail)
          go_wp2_with fail
          all_goals
            go_returns
            rw [HO'.out]
            exact NumPost.good HP.out HR.out
        · have hle := p6
          rw [← (HO 72057594037927936 (by decide)).out] at hle
          have HO' := HO 72057594037927936 (by decide)
          have p4' : bt s (f + 8) ≠ 0 := p4 (by omega)
          clear HO p4 p5 p6
          generalize lo s f 8 = l at *
          go_wp2_with fail
          go_quiet (fail)
          go_wp2_with fail
          go_quiet (fail)
          go_wp2_with fail
          all_goals
            go_returns
            rw [HO'.out]
            exact NumPost.good HP.out HR.out
end Go.Proofs.YtdkkblkbonjjgabGreatDoor.TagB2
