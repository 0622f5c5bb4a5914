/- DecimalSums, walked. Condition: the tables hold what the program's text lays. -/
import Derived.Test.YtgppimdakafniaaDoorDecSums
import Derived.Test.YtgppimdakafniaaDoorDecM
namespace Go.Proofs.YtgppimdakafniaaDoor
open Go Go.RowKit Go.PlainAid

theorem NumOwn.drew {w : World} {g : Nat} {l : List (Int × Int)} (h : NumOwn w g l) : NumOwn w.drew g l := by
  obtain ⟨cs, hc, hx⟩ := h
  exact ⟨cs, hc.drew, hx⟩
set_option maxRecDepth 100000 in
set_option maxHeartbeats 32000000 in
theorem decimalSums_walk (A : Option Addr) (len cap : Nat) (l : List (Int × Int)) (O : Option Addr) (len' cap' : Nat) (ol : List Int) (w : World) (hL : Laid w)
    (h0 : l.length = len ∧ len ≤ cap ∧ cap ≤ maxLen ∧ NumRow w A l) (h1 : ol.length = len' ∧ len' ≤ cap' ∧ cap' ≤ maxLen ∧ (∀ x ∈ ol, 0 ≤ x ∧ x ≤ 255) ∧ ByteRow w O ol) :
    Calls Tryd.prog 10 #[.slice A len cap, .slice O len' cap'] w fun e w' => e = .returned (.bool true) ∧ Below w.heap.size w w' := by
  obtain ⟨rfl, a1, a2, hr⟩ := h0
  obtain ⟨rfl, b1, b2, hb, ho⟩ := h1
  unfold maxLen at a2 b2
  have PH := hide hL.pows
  have RH := hide hr
  have OH := hide ho
  have OB := hide hb
  clear hL hr ho hb
  by_cases hbig : 300 < l.length
  · go_enter Tryd.func10, Tryd.ntmps10
    go_wp2_with fail
    refine (known_any _ PH.out).mono ?_
    rintro e w1 ⟨rfl, hb1⟩
    go_wp2_with fail
    refine (known_any _ (PH.out.below hb1)).mono ?_
    rintro e w2 ⟨rfl, hb2⟩
    have hB := below_step hb1 hb2
    go_wp2_with fail
    go_ret
    exact ⟨rfl, hB⟩
  go_enter Tryd.func10, Tryd.ntmps10
  go_wp2_with fail
  refine (known_any _ PH.out).mono ?_
  rintro e w1 ⟨rfl, hB⟩
  have hrow1 := RH.out.below hB
  have HR1 := hide hrow1
  clear hrow1
  go_upto_region 3 with fail
  go_cut [5] (fun s5 wx => ∃ (A' : Option Addr) (c' : Nat), s5 = .slice A' l.length c' ∧ (0 < l.length → ∃ g, A' = some ⟨g, 0, none⟩ ∧ w.heap.size ≤ g ∧ NumOwn wx g l) ∧ Below w.heap.size w wx)
  case first =>
    by_cases hn : l.length = 0
    · have hz : (Builtin.append_ #[49, 49] 49 #[.slice (some ⟨w1.heap.size, 0, none⟩) 0 0, .slice A l.length cap]).run Tryd.prog (w1.alloc (.cells #[] 23)) = .ok (.slice (some ⟨w1.heap.size, 0, none⟩) 0 0) (w1.alloc (.cells #[] 23)) := by
        rw [hn]; exact append_none _ _ _ _
      have H0 := hide hn
      clear hn
      go_wp2_with (at_builtin; refine Lib.wpList_append_run_sl _ rfl _ _ 49 rfl _ _ rfl rfl hz ?_)
      go_meet
      exact ⟨_, _, by rw [H0.out], fun h => absurd H0.out (by omega), hB.alloc hB.size _⟩
    · obtain ⟨c, W', hz, hown, hbw⟩ := append_nums (w1.alloc (.cells #[] 23)) ⟨w1.heap.size, 0, none⟩ A cap l (HR1.out.below (below1 _ _)) (by omega) (by omega)
      have HO := hide hown
      have HB := hide hbw
      clear hown hbw
      go_wp2_with (at_builtin; refine Lib.wpList_append_run_sl _ rfl _ _ 49 rfl _ _ rfl rfl hz ?_)
      go_meet
      exact ⟨_, _, rfl, fun _ => ⟨_, rfl, by have := hB.size; omega, by have := HO.out; simpa using this⟩, below_step (below_alloc hB _) HB.out⟩
  case rest =>
    obtain ⟨A', c', rfl, hown, hB0⟩ := hcut
    have HOWN := hide hown
    clear hown HR1
    go_wp2_with fail
    go_loopw [6] (fun i wr => ∃ (k : Nat) (l' : List (Int × Int)), k ≤ ol.length ∧ i = .int .i64 k ∧ l'.length = l.length ∧ Hid (l.Perm l') ∧ Hid (0 < l.length → ∃ g, A' = some ⟨g, 0, none⟩ ∧ w.heap.size ≤ g ∧ NumOwn wr g l') ∧ Below w.heap.size w wr) (fun i _ => ol.length - (intOf i).toNat)
    case atStart => exact ⟨0, l, Nat.zero_le _, rfl, rfl, List.Perm.refl _, HOWN, hB0⟩
    case round =>
      obtain ⟨k, l', hk, rfl, hll, hperm, hO, hB2⟩ := hrel
      by_cases hin : k < ol.length ∧ k < l.length
      · obtain ⟨h1, h2⟩ := hin
        obtain ⟨g, rfl, hgw, hnum⟩ := hO.out (by omega)
        obtain ⟨go, off, hOA, hgo, hco⟩ := OH.out (by omega)
        have d0 := (hB2.cell (p := ⟨go, off + k, none⟩) hgo).trans (hco k h1)
        obtain ⟨o, ho⟩ : ∃ o, o = dg ol k := ⟨_, rfl⟩
        have hob : 0 ≤ o ∧ o ≤ 255 := by
          rw [ho]
          have : dg ol k = ol[k] := by simp [dg, List.getD, h1]
          rw [this]
          exact OB.out _ (List.getElem_mem h1)
        rw [← ho] at d0
        obtain ⟨ob, hob'⟩ : ∃ ob : Nat, o = ob := ⟨o.toNat, by omega⟩
        subst hob'
        subst hOA
        clear ho hco
        have hlt := Nat.mod_lt ob (show 0 < l.length by omega)
        have hmod : IntKind.i64.wrap (Int.tmod (ob : Int) (l.length : Int)) = ((ob % l.length : Nat) : Int) := by
          rw [Int.tmod_eq_emod_of_nonneg (by omega), ← Int.natCast_emod]
          exact IntWalk.i64_in _ (by omega)
        have hm2 : (ob : Int) % (l.length : Int) = ((ob % l.length : Nat) : Int) := (Int.natCast_emod _ _).symm
        generalize ob % l.length = q at *
        have hnum2 := hnum
        obtain ⟨cs, hC, hx⟩ := hnum2
        obtain ⟨x0, hx0⟩ : ∃ x, x = (atL l' k).1 := ⟨_, rfl⟩
        obtain ⟨x1, hx1⟩ : ∃ x, x = (atL l' k).2 := ⟨_, rfl⟩
        obtain ⟨y0, hy0⟩ : ∃ x, x = (atL l' q).1 := ⟨_, rfl⟩
        obtain ⟨y1, hy1⟩ : ∃ x, x = (atL l' q).2 := ⟨_, rfl⟩
        have ek0 := (hC.cell (k * 2)).trans (hx k (by omega)).1
        have ek1 := (hC.cell (k * 2 + 1)).trans (hx k (by omega)).2
        have eq0 := (hC.cell (q * 2)).trans (hx q (by omega)).1
        have eq1 := (hC.cell (q * 2 + 1)).trans (hx q (by omega)).2
        have fk0 := hC.free (k * 2)
        have fk1 := hC.free (k * 2 + 1)
        have fq0 := hC.free (q * 2)
        have fq1 := hC.free (q * 2 + 1)
        have SW := hide (hnum.swap (i := k) (k := q) (by omega) (by omega))
        have PM := hide (hperm.out.trans (swp_perm l' k q (by omega) (by omega)))
        have SL : Hid ((swp l' k q).length = l.length) := hide (by rw [swp_len]; exact hll)
        rw [← hx0] at ek0 SW
        rw [← hx1] at ek1 SW
        rw [← hy0] at eq0 SW
        rw [← hy1] at eq1 SW
        have lq : (q : Int) < (l.length : Int) := by omega
        have HB2 := hide hB2
        clear hx hC hnum hO hperm hB2
        by_cases hkq : k = q
        · subst hkq
          obtain rfl : x0 = y0 := hx0.trans hy0.symm
          obtain rfl : x1 = y1 := hx1.trans hy1.symm
          clear eq0 eq1 fq0 fq1 hx0 hx1 hy0 hy1
          go_wp2_with fail
          go_region
          go_wp2_with fail
          go_roundw
          case rel => exact ⟨k + 1, swp l' k k, by omega, by go_num, SL.out, PM, hide (fun _ => ⟨g, rfl, hgw, SW.out.drew⟩), below_drew ((((HB2.out.setCell hgw _).setCell hgw _).setCell hgw _).setCell hgw _)⟩
          case measure => simp [intOf]; omega
        · have n1 : q ≠ k := Ne.symm hkq
          have n2 : ¬ (k * 2 = q * 2) := by omega
          have n3 : ¬ (q * 2 = k * 2) := by omega
          have n4 : ¬ (k * 2 + 1 = q * 2) := by omega
          have n5 : ¬ (q * 2 = k * 2 + 1) := by omega
          have n6 : ¬ (q * 2 + 1 = k * 2) := by omega
          have n7 : ¬ (k * 2 = q * 2 + 1) := by omega
          clear hx0 hx1 hy0 hy1
          go_wp2_with fail
          go_region
          go_wp2_with fail
          go_roundw
          case rel => exact ⟨k + 1, swp l' k q, by omega, by go_num, SL.out, PM, hide (fun _ => ⟨g, rfl, hgw, SW.out.drew⟩), below_drew ((((HB2.out.setCell hgw _).setCell hgw _).setCell hgw _).setCell hgw _)⟩
          case measure => simp [intOf]; omega
      · have CM : Hid (∀ W, Below wr.heap.size wr W → Pows W → Calls Tryd.prog 35 #[.slice A' l.length c'] W (SumPost l' W)) := hide fun W hW hPW => by
          have hrw : NumRow W A' l' := fun h => by
            obtain ⟨g, rfl, _, hn⟩ := hO.out (by omega)
            exact (hn.row.below hW) h
          have := sum_any A' c' l' W hrw hPW (by omega)
          rwa [hll] at this
        by_cases h9 : k < ol.length
        · have q0 : decide ((k : Int) < (ol.length : Int)) = true := by simpa using h9
          have q1 : decide ((k : Int) < (l.length : Int)) = false := by simp; omega
          clear hO
          go_wp2_with fail
          refine (sum_any A cap l _ (RH.out.below hB2) (PH.out.below hB2) (by omega)).mono ?_
          rintro e w2 ⟨n, t, x, rfl, hS, hb2⟩
          have hB3 := below_step hB2 hb2
          have HS := hide hS
          have HW2 := hide hb2
          clear hS hb2
          go_wp2_with fail
          refine (CM.out _ (below_alloc HW2.out _) (PH.out.below (below_alloc hB3 _))).mono ?_
          rintro e w3 ⟨n2, t2, x2, rfl, hS2, hb3⟩
          obtain ⟨rfl, rfl, rfl⟩ : n = n2 ∧ t = t2 ∧ x = x2 := HS.out.one (hS2.perm hperm.out.symm)
          have p1 := new0 hb3
          have p2 := new1 hb3
          have hB4 := below_new hB3 hb3
          have l1 : w2.heap.size < w3.heap.size := World.block_lt_of_cell? _ _ p1
          clear hS2 hb3
          go_wp2_with fail
          refine (refSum_any A cap l _ (RH.out.below (below_alloc hB4 _)) (by omega)).mono ?_
          rintro e w4 ⟨n3, t3, x3, rfl, hS3, hb4⟩
          obtain ⟨rfl, rfl, rfl⟩ : n = n3 ∧ t = t3 ∧ x = x3 := HS.out.one hS3
          have q1 := new0 hb4
          have q2 := new1 hb4
          replace p1 := lift1 hb4 p1
          replace p2 := lift1 hb4 p2
          have hB5 := below_new hB4 hb4
          have l2 : w2.heap.size < w4.heap.size := World.block_lt_of_cell? _ _ p1
          have l3 : w3.heap.size < w4.heap.size := World.block_lt_of_cell? _ _ q1
          clear hS3 hb4 l1
          go_wp2_with fail
          go_ret
          exact ⟨rfl, below_alloc hB5 _⟩
        · have q0 : decide ((k : Int) < (ol.length : Int)) = false := by simp; omega
          clear hO
          go_wp2_with fail
          refine (sum_any A cap l _ (RH.out.below hB2) (PH.out.below hB2) (by omega)).mono ?_
          rintro e w2 ⟨n, t, x, rfl, hS, hb2⟩
          have hB3 := below_step hB2 hb2
          have HS := hide hS
          have HW2 := hide hb2
          clear hS hb2
          go_wp2_with fail
          refine (CM.out _ (below_alloc HW2.out _) (PH.out.below (below_alloc hB3 _))).mono ?_
          rintro e w3 ⟨n2, t2, x2, rfl, hS2, hb3⟩
          obtain ⟨rfl, rfl, rfl⟩ : n = n2 ∧ t = t2 ∧ x = x2 := HS.out.one (hS2.perm hperm.out.symm)
          have p1 := new0 hb3
          have p2 := new1 hb3
          have hB4 := below_new hB3 hb3
          have l1 : w2.heap.size < w3.heap.size := World.block_lt_of_cell? _ _ p1
          clear hS2 hb3
          go_wp2_with fail
          refine (refSum_any A cap l _ (RH.out.below (below_alloc hB4 _)) (by omega)).mono ?_
          rintro e w4 ⟨n3, t3, x3, rfl, hS3, hb4⟩
          obtain ⟨rfl, rfl, rfl⟩ : n = n3 ∧ t = t3 ∧ x = x3 := HS.out.one hS3
          have q1 := new0 hb4
          have q2 := new1 hb4
          replace p1 := lift1 hb4 p1
          replace p2 := lift1 hb4 p2
          have hB5 := below_new hB4 hb4
          have l2 : w2.heap.size < w4.heap.size := World.block_lt_of_cell? _ _ p1
          have l3 : w3.heap.size < w4.heap.size := World.block_lt_of_cell? _ _ q1
          clear hS3 hb4 l1
          go_wp2_with fail
          go_ret
          exact ⟨rfl, below_alloc hB5 _⟩
end Go.Proofs.YtgppimdakafniaaDoor
