/- What decimal.Sum returns. Conditions: the tables hold what the program's text lays. -/
import Derived.Test.YtgppimdakafniaaDoorDecRows
import Derived.Test.YtgppimdakafniaaDoorDecSum
import Derived.Test.YtgppimdakafniaaDoorDecRead
import Derived.Test.YtgppimdakafniaaDoorDecH
namespace Go.Proofs.YtgppimdakafniaaDoor
open Go Go.RowKit Go.PlainAid

theorem Holds.drew {w : World} {g : Nat} {T : TypeId} {cs : Array Value} (h : Holds w g T cs) : Holds w.drew g T cs := h
theorem Holds.after {w w' : World} {g : Nat} {T : TypeId} {cs : Array Value} (h : Holds w g T cs) (hb : Below w.heap.size w w') : Holds w' g T cs := (hb.block g h.lt).trans h
/-- the k-th number -/
def atL (l : List (Int × Int)) (k : Nat) : Int × Int := l.getD k (0, 0)
theorem take_at (l : List (Int × Int)) (k : Nat) (h : k < l.length) : l.take (k + 1) = l.take k ++ [atL l k] := by
  rw [List.take_succ_eq_append_getElem h]
  simp [atL, List.getD, h]
theorem at_mem (l : List (Int × Int)) (k : Nat) (h : k < l.length) : atL l k ∈ l := by
  have : atL l k = l[k] := by simp [atL, List.getD, h]
  rw [this]; exact List.getElem_mem h
/-- what Sum comes to -/
def SumPost (l : List (Int × Int)) (w : World) (e : Ending) (w' : World) : Prop :=
  ∃ n t x : Int, e = .returned (.tuple #[(.agg #[.int .i64 (n), .int .i64 (t)]), .int .i64 x]) ∧ SumOut l n t x ∧ Below w.heap.size w w'

set_option maxHeartbeats 16000000 in
theorem sum_any (A : Option Addr) (cap : Nat) (l : List (Int × Int)) (w : World) (hr : NumRow w A l) (hP : Pows w) (hl : l.length ≤ 300) :
    Calls Tryd.prog 35 #[.slice A l.length cap] w (SumPost l w) := by
  have RH := hide hr
  have PH := hide hP
  clear hr hP
  by_cases hbig : 256 < l.length
  · go_enter Tryd.func35, Tryd.ntmps35
    go_wp2_with fail
    exact bodyPost_ret (v := .tuple #[(.agg #[.int .i64 (0), .int .i64 (0)]), .int .i64 9]) (by simp [results, Tryd.results35, go_sem]) rfl ⟨0, 0, 9, rfl, .inl ⟨hbig, rfl, rfl, rfl⟩, below1 _ _⟩
  go_enter Tryd.func35, Tryd.ntmps35
  go_wp2_with fail
  go_loopw [4, 17] (fun m i wr => ∃ k : Nat, k ≤ l.length ∧ i = .int .i64 k ∧ m = .int .i64 (mxs (l.take k)) ∧ Hid (allOk (l.take k)) ∧ Holds wr w.heap.size 23 #[.int .i64 0, .int .i64 0] ∧ Below w.heap.size w wr) (fun _ i _ => l.length - (intOf i).toNat)
  case atStart => exact ⟨0, Nat.zero_le _, rfl, rfl, fun p hp => by simp at hp, (show Holds _ _ _ _ from heap_alloc_new w _), below1 _ _⟩
  case round =>
    obtain ⟨k, hk, rfl, rfl, hO, hH, hB⟩ := hrel
    by_cases hlt : k < l.length
    · obtain ⟨g, off, hA, hg, hc⟩ := RH.out (by omega)
      obtain ⟨c0, c1⟩ := hc k hlt
      have d0 := (hB.cell (p := ⟨g, off + k * 2, none⟩) hg).trans c0
      have d1 := (hB.cell (p := ⟨g, off + k * 2 + 1, none⟩) hg).trans c1
      obtain ⟨n, s, hns⟩ : ∃ n s, atL l k = (n, s) := ⟨_, _, rfl⟩
      have hns' : l.getD k (0, 0) = (n, s) := hns
      rw [hns'] at d0 d1
      simp only at d0 d1
      have HNS := hide hns
      have HA := hide hA
      obtain ⟨mx, hmx⟩ : ∃ mx, mx = mxs (l.take k) := ⟨_, rfl⟩
      have HMX := hide hmx
      rw [← hmx]
      have HR := hide hH
      subst hA
      clear c0 c1 hc hns hns' hmx hH
      by_cases hok : okN n s
      · have HO := hide hok
        clear hok
        go_wp2_with fail
        refine (check_ok _ _ _ HO.out).mono ?_
        rintro e w1 ⟨rfl, hb1⟩
        have k1 := new1 hb1
        have hB1 := below_new hB hb1
        have HR1 := (HR.out.alloc _).after hb1
        have HR2 := hide HR1
        clear hb1 HR1
        go_wp2_with fail
        go_roundw
        case rel => exact ⟨k + 1, by omega, by go_num, by rw [take_at l k hlt, mxs_snoc, HNS.out, HMX.out], hide (by
          rw [take_at l k hlt]
          intro p hp
          rcases List.mem_append.1 hp with hp | hp
          · exact hO.out p hp
          · rw [List.mem_singleton.1 hp, HNS.out]; exact HO.out), HR2.out, hB1⟩
        case measure => simp [intOf]; omega
      · have HO := hide hok
        clear hok
        go_wp2_with fail
        refine (check_no _ _ _ HO.out).mono ?_
        rintro e w1 ⟨rfl, hb1⟩
        have hB1 := below_new hB hb1
        have HR1 := (HR.out.alloc _).after hb1
        have r0 := (HR1.cell 0).trans (show _ = some (Value.int .i64 0) from rfl)
        have r1 := (HR1.cell 1).trans (show _ = some (Value.int .i64 0) from rfl)
        have f0 := HR1.free 0
        have f1 := HR1.free 1
        have l1 := HR1.lt
        have R4 := (HR1.put 0 (.int .i64 0)).put 1 (.int .i64 0)
        have y0 := (R4.cell 0).trans (show _ = some (Value.int .i64 0) from rfl)
        have y1 := (R4.cell 1).trans (show _ = some (Value.int .i64 0) from rfl)
        clear hb1 HR1 R4
        go_wp2_with fail
        exact bodyPost_ret (v := .tuple #[(.agg #[.int .i64 (0), .int .i64 (0)]), .int .i64 2]) (by simp [results, Tryd.results35, go_sem, y0, y1]) rfl ⟨0, 0, 2, rfl, .inr (.inl ⟨by omega, fun h => HO.out (by have := h _ (at_mem l k hlt); rw [HNS.out] at this; exact this), rfl, rfl, rfl⟩), (hB1.setCell (Nat.le_refl _) _).setCell (Nat.le_refl _) _⟩
    · obtain rfl : k = l.length := by omega
      rw [List.take_of_length_le (Nat.le_refl _)] at hO
      have ok := hO.out
      rw [List.take_of_length_le (Nat.le_refl _)]
      obtain ⟨m, hm⟩ : ∃ m, m = mxs l := ⟨_, rfl⟩
      rw [← hm]
      have m0 : 0 ≤ m := by rw [hm]; exact mxs_nonneg l
      have m12 : m ≤ 12 := by rw [hm]; exact mxs_le l ok
      have HM := hide hm
      have OK := hide ok
      have HR := hide hH
      clear hm ok hO hH
      obtain ⟨W1, rfl⟩ : ∃ W, W = wr := ⟨_, rfl⟩
      have hg1 : w.heap.size < W1.heap.size := HR.out.lt
      have hz0 : hiN 0 = 0 := by decide
      have lz0 : loN 0 = 0 := by decide
      go_wp2_with fail
      go_loopw [34] (fun i wx => ∃ k : Nat, k ≤ l.length ∧ i = .int .i64 k ∧ Holds wx W1.heap.size 62 #[.int .u64 (hiN (tot (l.take k) m) : Int), .int .u64 (loN (tot (l.take k) m) : Int)] ∧ Holds wx w.heap.size 23 #[.int .i64 0, .int .i64 0] ∧ Below w.heap.size w wx) (fun i _ => l.length - (intOf i).toNat)
      case atStart => exact ⟨0, Nat.zero_le _, rfl, (by
        have := heap_alloc_new W1 (.cells #[.int .u64 0, .int .u64 0] 62)
        unfold Holds
        rw [List.take_zero, tot, hz0, lz0]
        exact this), HR.out.alloc _, hB.alloc hB.size _⟩
      case round =>
        obtain ⟨k, hk, rfl, hG, hH, hB2⟩ := hrel
        obtain ⟨z, hz⟩ : ∃ z, z = tot (l.take k) m := ⟨_, rfl⟩
        rw [← hz] at hG
        have HZ := hide hz
        clear hz
        have s0 := (hG.cell 0).trans (show _ = some (Value.int .u64 (hiN z : Int)) from rfl)
        have s1 := (hG.cell 1).trans (show _ = some (Value.int .u64 (loN z : Int)) from rfl)
        have HG := hide hG
        have HH := hide hH
        have lG := hG.lt
        have lH := hH.lt
        by_cases hlt : k < l.length
        · obtain ⟨g, off, hA, hg, hc⟩ := RH.out (by omega)
          obtain ⟨c0, c1⟩ := hc k hlt
          have d0 := (hB2.cell (p := ⟨g, off + k * 2, none⟩) hg).trans c0
          have d1 := (hB2.cell (p := ⟨g, off + k * 2 + 1, none⟩) hg).trans c1
          obtain ⟨n, t, hns⟩ : ∃ n t, atL l k = (n, t) := ⟨_, _, rfl⟩
          have hns' : l.getD k (0, 0) = (n, t) := hns
          rw [hns'] at d0 d1
          simp only at d0 d1
          have hmem := at_mem l k hlt
          rw [hns] at hmem
          have HO := hide (OK.out _ hmem)
          have htm : t ≤ m := by rw [HM.out]; exact le_mxs l _ hmem
          have HNS := hide hns
          have X : Hid (tot (l.take (k + 1)) m = z + sca n t m) := hide (by rw [take_at l k hlt, tot_snoc, HNS.out, HZ.out])
          have CS : Hid (∀ W, Below w.heap.size w W → Calls Tryd.prog 43 #[(.agg #[.int .i64 (n), .int .i64 (t)]), .int .i64 m] W fun e w' => e = .returned (.agg #[.int .u64 ((hiN (sca n t m) : Int)), .int .u64 ((loN (sca n t m) : Int))]) ∧ Below W.heap.size W w') := hide fun W hW => scaled_at n t m W (PH.out.below hW) HO.out htm m12
          generalize sca n t m = v at *
          subst hA
          clear c0 c1 hc hns hns' hmem hG hH
          go_upto_region 16 with fail
          go_region_with (first
            | (go_at_call 43; (with_reducible refine (CS.out _ ?_).mono ?_); (first | exact below_alloc hB2 _ | exact below_drew (below_alloc hB2 _)); rintro e w1 ⟨rfl, hb1⟩; have G1 : Holds w1 W1.heap.size 62 #[.int .u64 (hiN z : Int), .int .u64 (loN z : Int)] := (by first | exact (HG.out.alloc _).after hb1 | exact (HG.out.alloc _).drew.after hb1); have x0 := (G1.cell 0).trans (show _ = some (Value.int .u64 (hiN z : Int)) from rfl); have x1 := (G1.cell 1).trans (show _ = some (Value.int .u64 (loN z : Int)) from rfl); have B1 : Below w.heap.size w w1 := (by first | exact below_new hB2 hb1 | exact below_step (below_drew (below_alloc hB2 _)) hb1); have R1 : Hid (Holds w1 w.heap.size 23 #[.int .i64 0, .int .i64 0]) := hide (by first | exact (HH.out.alloc _).after hb1 | exact (HH.out.alloc _).drew.after hb1))
            | (go_at_call 44; (with_reducible refine (plus_any z v _).mono ?_); rintro e w2 ⟨rfl, hb2⟩; have G2 := G1.after hb2; have y0 := (G2.cell 0).trans (show _ = some (Value.int .u64 (hiN z : Int)) from rfl); have y1 := (G2.cell 1).trans (show _ = some (Value.int .u64 (loN z : Int)) from rfl); have f0 := G2.free 0; have f1 := G2.free 1; have B2 := below_step B1 hb2; have R2 := hide (R1.out.after hb2); have GG := hide G2))
          all_goals (
            have HB2 := hide B2
            clear G1 G2 x0 x1 B1 B2 hb1 hb2 R1
            go_wp2_with fail
            go_roundw
            case rel =>
              refine ⟨k + 1, by omega, by go_num, ?_, ?_, ?_⟩
              · rw [X.out]; first | exact (GG.out.put 0 _).put 1 _ | exact ((GG.out.put 0 _).put 1 _).drew | exact (GG.out.drew.put 0 _).put 1 _
              · first | exact (R2.out.far (by simp; omega) _).far (by simp; omega) _ | exact ((R2.out.far (by simp; omega) _).far (by simp; omega) _).drew | exact (R2.out.drew.far (by simp; omega) _).far (by simp; omega) _
              · first | exact (HB2.out.setCell (by simp; omega) _).setCell (by simp; omega) _ | exact below_drew ((HB2.out.setCell (by simp; omega) _).setCell (by simp; omega) _) | exact ((below_drew HB2.out).setCell (by simp; omega) _).setCell (by simp; omega) _
            case measure => simp [intOf]; omega)
        · obtain rfl : k = l.length := by omega
          have hzz := HZ.out
          rw [List.take_of_length_le (Nat.le_refl _)] at hzz
          have hfit : Fits z := by
            have := tot_bound l m OK.out (fun p hp => by rw [HM.out]; exact le_mxs l p hp) m12
            rw [← hzz] at this
            unfold Fits
            omega
          have HZZ := hide hzz
          clear hzz HZ hG hH
          go_wp2_with fail
          refine (number_any _ _ _ hfit).mono ?_
          rintro e w2 ⟨n, t, x, rfl, hN, hb2⟩
          have HN := hide hN
          have R2 := HH.out.after hb2
          have B2 := below_step hB2 hb2
          have r0 := (R2.cell 0).trans (show _ = some (Value.int .i64 0) from rfl)
          have r1 := (R2.cell 1).trans (show _ = some (Value.int .i64 0) from rfl)
          have f0 := R2.free 0
          have f1 := R2.free 1
          have l2 := R2.lt
          have R4 := (R2.put 0 (.int .i64 n)).put 1 (.int .i64 t)
          have y0 := (R4.cell 0).trans (show _ = some (Value.int .i64 n) from rfl)
          have y1 := (R4.cell 1).trans (show _ = some (Value.int .i64 t) from rfl)
          clear hb2 R2 R4 hN hB2 s0 s1 HG
          go_wp2_with fail
          exact bodyPost_ret (v := .tuple #[(.agg #[.int .i64 (n), .int .i64 (t)]), .int .i64 x]) (by simp [results, Tryd.results35, go_sem, y0, y1]) rfl ⟨n, t, x, rfl, .inr (.inr ⟨by omega, OK.out, by rw [← HM.out, ← HZZ.out]; exact HN.out⟩), (B2.setCell (Nat.le_refl _) _).setCell (Nat.le_refl _) _⟩
end Go.Proofs.YtgppimdakafniaaDoor
