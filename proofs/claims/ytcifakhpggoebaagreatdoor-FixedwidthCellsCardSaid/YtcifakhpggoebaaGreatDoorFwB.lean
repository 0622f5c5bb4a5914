/- What checkLength returns, and the reference's Cells. No condition. -/
import Derived.Test.YtcifakhpggoebaaGreatDoorFwA
namespace Go.Proofs.YtcifakhpggoebaaGreatDoor.Fw
open Go Go.RowKit Go.PlainAid
def lenCode (n m : Nat) : Int := if n < m then 4 else if m < n then 5 else 0
theorem checkLength_any (s : ByteArray) (A : Option Addr) (l : List Int) (c : Nat) (w : World) (hr : Row w A l) (hl : l.length ≤ 64) (ho : allOk l) :
    Calls Tryz.prog 12 #[.string s, .slice A l.length c] w fun e w' => (∃ x : Int, e = .returned (.tuple #[.int .i64 x, .int .i64 (lenCode s.size (S l l.length))])) ∧ Below w.heap.size w w' := by
  have HR := hide hr
  have HO := hide ho
  clear hr ho
  obtain ⟨m, hm⟩ : ∃ m, S l l.length = m := ⟨_, rfl⟩
  have SUM := sum_any A l c
  rw [hm] at SUM ⊢
  have HS := hide SUM
  clear SUM hm
  rcases Nat.lt_trichotomy s.size m with h | h | h
  · have hd : lenCode s.size m = 4 := by unfold lenCode; rw [if_pos h]
    rw [hd]
    clear hd
    have h' : (s.size : Int) < (m : Int) := by omega
    go_enter Tryz.func12, Tryz.ntmps12
    go_wp2_with fail
    refine (HS.out _ HR.out hl HO.out).mono ?_
    rintro e w1 ⟨rfl, b1⟩
    go_wp2_with fail
    go_returns
    exact ⟨⟨_, rfl⟩, b1⟩
  · have hd : lenCode s.size m = 0 := by unfold lenCode; rw [if_neg (by omega), if_neg (by omega)]
    rw [hd]
    clear hd
    have h1 : ¬ (s.size : Int) < (m : Int) := by omega
    have h2 : ¬ (m : Int) < (s.size : Int) := by omega
    clear h
    go_enter Tryz.func12, Tryz.ntmps12
    go_wp2_with fail
    refine (HS.out _ HR.out hl HO.out).mono ?_
    rintro e w1 ⟨rfl, b1⟩
    go_wp2_with fail
    go_returns
    exact ⟨⟨_, rfl⟩, b1⟩
  · have hd : lenCode s.size m = 5 := by unfold lenCode; rw [if_neg (by omega), if_pos h]
    rw [hd]
    clear hd
    have h1 : ¬ (s.size : Int) < (m : Int) := by omega
    have h2 : (m : Int) < (s.size : Int) := by omega
    clear h
    go_enter Tryz.func12, Tryz.ntmps12
    go_wp2_with fail
    refine (HS.out _ HR.out hl HO.out).mono ?_
    rintro e w1 ⟨rfl, b1⟩
    go_wp2_with fail
    go_returns
    exact ⟨⟨_, rfl⟩, b1⟩
theorem strInfo : (Tryz.prog.info? 9).map (fun i => (i.zero, i.size, i.bytes)) = some (some (.string ⟨#[]⟩), 1, 16) := by kernel_rfl
theorem Post.bad {s : ByteArray} {l : List Int} {w w' : World} {c : Int} (hc : code s l = c) (h0 : c ≠ 0) (hb : Below w.heap.size w w') : Post s l w (.returned (.tuple #[.slice none 0 0, .int .i64 c])) w' := ⟨_, _, rfl, hc.symm, fun _ => rfl, fun h => absurd h h0, hb⟩
set_option maxRecDepth 100000 in
set_option maxHeartbeats 8000000 in
theorem refCells_any (s : ByteArray) (A : Option Addr) (l : List Int) (c : Nat) (w : World) (hr : Row w A l) (hl : l.length ≤ 1000) (hs : s.size ≤ 1000000) :
    Calls Tryz.prog 7 #[.string s, .slice A l.length c] w (Post s l w) := by
  have HR := hide hr
  clear hr
  by_cases h64 : l.length ≤ 64
  · have h64' : ¬ (64 : Int) < (l.length : Int) := by omega
    go_enter Tryz.func7, Tryz.ntmps7
    go_wp2_with fail
    go_loopw [6, 7] (fun y x wr => ∃ k : Nat, k ≤ l.length ∧ x = .int .i64 k ∧ y = .int .i64 (S l k : Nat) ∧ (∀ j, j < k → isOk (dg l j)) ∧ S l k ≤ 4096 * k ∧ Below w.heap.size w wr) (fun _ x _ => l.length - (intOf x).toNat)
    case atStart => exact ⟨0, Nat.zero_le _, rfl, by rw [S_zero]; rfl, fun j hj => by omega, by rw [S_zero]; omega, Below.refl _ _⟩
    case round =>
      obtain ⟨k, hk, rfl, rfl, hall, hle, hb⟩ := hrel
      by_cases hlt : k < l.length
      · obtain ⟨g, off, rfl, hg, hc⟩ := HR.out (by omega)
        have d0 := (hb.cell (p := ⟨g, off + k, none⟩) hg).trans (hc k hlt)
        obtain ⟨x, hx⟩ : ∃ x, dg l k = x := ⟨_, rfl⟩
        rw [hx] at d0
        have hi0 : (0 : Int) ≤ (k : Int) := Int.natCast_nonneg _
        have hi1 : (k : Int) < (l.length : Int) := by omega
        have HALL := hide hall
        obtain ⟨q, hq⟩ : ∃ q, S l k = q := ⟨_, rfl⟩
        rw [hq] at hle ⊢
        by_cases ho : isOk x
        · obtain ⟨o1, o2⟩ := ho
          have NS : Hid ((q : Int) + x = ((S l (k + 1) : Nat) : Int)) := hide (by rw [S_succ l k hlt, hx, hq]; omega)
          have NL : Hid (S l (k + 1) ≤ 4096 * (k + 1)) := hide (by rw [S_succ l k hlt, hx, hq]; omega)
          have NX : Hid (∀ j, j < k + 1 → isOk (dg l j)) := hide fun j hj => by
            by_cases hjk : j = k
            · subst hjk; rw [hx]; exact ⟨o1, o2⟩
            · exact HALL.out j (by omega)
          clear hc hall hq
          go_wp2_with fail
          go_roundw
          case rel => exact ⟨k + 1, by omega, by go_num, by rw [← NS.out], NX.out, NL.out, hb⟩
          case measure => simp [intOf]; omega
        · have hcode : code s l = 2 := code_wide (.inr fun h => ho (hx ▸ h k hlt))
          have HC := hide hcode
          have ho' : x < 1 ∨ (1 ≤ x ∧ 4096 < x) := by unfold isOk at ho; omega
          clear hc hall hq hcode ho
          rcases ho' with o1 | ⟨o1, o2⟩
          · go_wp2_with fail
            go_returns
            exact Post.bad HC.out (by decide) hb
          · go_wp2_with fail
            go_returns
            exact Post.bad HC.out (by decide) hb
      · obtain rfl : k = l.length := by omega
        have HO := hide (show allOk l from hall)
        clear hall
        obtain ⟨m, hm⟩ : ∃ m, S l l.length = m := ⟨_, rfl⟩
        have HM := hide hm
        rw [hm] at hle ⊢
        clear hm
        have HBel := hide hb
        clear hb
        rcases Nat.lt_trichotomy s.size m with h | h | h
        · have HC := hide (code_short h64 HO.out (by rw [HM.out]; exact h) : code s l = 4)
          have h1 : (s.size : Int) < (m : Int) := by omega
          clear h
          go_wp2_with fail
          go_returns
          exact Post.bad HC.out (by decide) HBel.out
        · have HC := hide (code_ok h64 HO.out (by rw [HM.out]; exact h) : code s l = 0)
          have h1 : ¬ (s.size : Int) < (m : Int) := by omega
          have h2 : ¬ (m : Int) < (s.size : Int) := by omega
          have h3 : m ≤ s.size := by omega
          clear h
          go_wp2_with fail
          go_loopw [8, 9, 10] (fun v y x wr' => ∃ k : Nat, k ≤ l.length ∧ x = .int .i64 k ∧ y = .int .i64 (S l k : Nat) ∧ wr'.ownsRow w.heap.size 9 1 v k (texts s l k) ∧ Below w.heap.size w wr') (fun _ _ x _ => l.length - (intOf x).toNat)
          case atStart => exact ⟨0, Nat.zero_le _, rfl, by rw [S_zero]; rfl, World.ownsRow_nil wr w.heap.size 9 1, HBel.out⟩
          case round =>
            obtain ⟨k, hk, rfl, rfl, hown, hb⟩ := hrel
            obtain ⟨i0, hi, hz0, hz1, hz2⟩ := info_parts strInfo
            by_cases hlt : k < l.length
            · obtain ⟨g, off, rfl, hg, hc⟩ := HR.out (by omega)
              have d0 := (hb.cell (p := ⟨g, off + k, none⟩) hg).trans (hc k hlt)
              obtain ⟨x, hx⟩ : ∃ x, dg l k = x := ⟨_, rfl⟩
              rw [hx] at d0
              have hi0 : (0 : Int) ≤ (k : Int) := Int.natCast_nonneg _
              have hi1 : (k : Int) < (l.length : Int) := by omega
              have NS := hide (S_succ l k hlt)
              have NM := hide (S_mono l (k + 1))
              have NT := hide (texts_succ s l k)
              have NI : Hid (textI s l k = s.extract (S l k) (S l (k + 1))) := hide rfl
              have o1 := HO.out k hlt
              rw [hx] at o1
              obtain ⟨o2, o3⟩ := o1
              obtain ⟨n, rfl⟩ : ∃ n : Nat, x = (n : Int) := ⟨x.toNat, by omega⟩
              obtain ⟨q, hq⟩ : ∃ q, S l k = q := ⟨_, rfl⟩
              have h4 := NS.out
              have h5 := NM.out
              rw [hq, hx, Int.toNat_natCast] at h4
              rw [h4, HM.out] at h5
              have NI' : Hid (textI s l k = s.extract q (q + n)) := hide (by rw [NI.out, hq, h4])
              have HQ := hide h4
              have h8 : (q : Int) + (n : Int) ≤ (s.size : Int) := by omega
              have h9 : (0 : Int) ≤ (q : Int) := Int.natCast_nonneg _
              have h10 : (0 : Int) ≤ (n : Int) := Int.natCast_nonneg _
              rw [hq]
              have C0 : Hid (w.cell? ⟨g, off + k, none⟩ = some (.int .i64 (n : Int))) := hide (by rw [← hx]; exact hc k hlt)
              have hgr : g < wr.heap.size := Nat.lt_of_lt_of_le hg hb.size
              clear hc hq NS NM NI h4 h5 o2 o3 hx
              go_wp2_with (at_builtin; refine wpList_append_own _ rfl _ _ 25 rfl w.heap.size 9 i0 (.string ⟨#[]⟩) 1 16 Tryz.underlying25 hi hz0 hz1 hz2 rfl (by decide) _ _ _ rfl (hown.alloc _) ⟨wr.heap.size, 0, none⟩ 1 1 [.string (s.extract q (q + n))] rfl rfl ?c1 ?c2 ?c3 ?c4 ?c5 ?_)
              case c1 => exact cell_one_new wr _ _
              case c2 => intro u hu; simp at hu; subst hu; rfl
              case c3 => unfold maxLen; omega
              case c4 => omega
              case c5 => have := hb.size; simp; omega
              intro v' w2 hown' hgrow _
              have hb2 : Below w.heap.size w w2 := (hb.alloc hb.size _).grown hgrow (by have := hb.size; simp; omega) (fun j hj => (hown.lt j hj).1)
              have HO2 := hide hown'
              have hcell : w2.cell? ⟨g, off + k, none⟩ = some (.int .i64 (n : Int)) := (hb2.cell (p := ⟨g, off + k, none⟩) hg).trans C0.out
              clear hown' hgrow hown d0
              go_wp2_with fail
              go_roundw
              case rel => exact ⟨k + 1, by omega, by go_num, by rw [HQ.out]; go_num, by rw [NT.out, NI'.out]; exact HO2.out, hb2⟩
              case measure => simp [intOf]; omega
            · obtain rfl : k = l.length := by omega
              go_wp2_with fail
              go_returns
              exact ⟨_, _, rfl, HC.out.symm, fun h => absurd rfl h, fun _ => hown, hb⟩
        · have HC := hide (code_long h64 HO.out (by rw [HM.out]; exact h) : code s l = 5)
          have h1 : ¬ (s.size : Int) < (m : Int) := by omega
          have h2 : (m : Int) < (s.size : Int) := by omega
          clear h
          go_wp2_with fail
          go_returns
          exact Post.bad HC.out (by decide) HBel.out
  · have h64' : (64 : Int) < (l.length : Int) := by omega
    have HC := hide (code_wide (s := s) (.inl (by omega : 64 < l.length)))
    go_enter Tryz.func7, Tryz.ntmps7
    go_wp2_with fail
    go_returns
    exact Post.bad HC.out (by decide) (Below.refl _ _)
end Go.Proofs.YtcifakhpggoebaaGreatDoor.Fw
