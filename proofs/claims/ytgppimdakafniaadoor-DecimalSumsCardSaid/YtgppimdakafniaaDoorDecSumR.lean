/- What the reference's Sum returns. No condition. -/
import Derived.Test.YtgppimdakafniaaDoorDecNear
import Derived.Test.YtgppimdakafniaaDoorDecSumP
namespace Go.Proofs.YtgppimdakafniaaDoor
open Go Go.RowKit Go.PlainAid

theorem row_nil0 (w : World) : Row w none (digs (0 : Int).natAbs) := fun h => by
  rw [show digs (0 : Int).natAbs = [] from digs_zero] at h
  exact absurd h (by simp)

set_option maxHeartbeats 32000000 in
theorem refSum_any (A : Option Addr) (cap : Nat) (l : List (Int × Int)) (w : World) (hr : NumRow w A l) (hl : l.length ≤ 300) :
    Calls Tryd.prog 36 #[.slice A l.length cap] w (SumPost l w) := by
  have RH := hide hr
  clear hr
  by_cases hbig : 256 < l.length
  · go_enter Tryd.func36, Tryd.ntmps36
    go_wp2_with fail
    exact bodyPost_ret (v := .tuple #[(.agg #[.int .i64 (0), .int .i64 (0)]), .int .i64 9]) (by simp [results, Tryd.results36, go_sem]) rfl ⟨0, 0, 9, rfl, .inl ⟨hbig, rfl, rfl, rfl⟩, below1 _ _⟩
  go_enter Tryd.func36, Tryd.ntmps36
  go_wp2_with fail
  go_loopw [4, 5] (fun m i wr => ∃ k : Nat, k ≤ l.length ∧ i = .int .i64 k ∧ m = .int .i64 (mxs (l.take k)) ∧ Hid (allOk (l.take k)) ∧ Holds wr w.heap.size 23 #[.int .i64 0, .int .i64 0] ∧ Below w.heap.size w wr) (fun _ i _ => l.length - (intOf i).toNat)
  case atStart => exact ⟨0, Nat.zero_le _, rfl, rfl, fun p hp => by simp at hp, (show Holds _ _ _ _ from heap_alloc_new w _), below1 _ _⟩
  case round =>
    obtain ⟨k, hk, rfl, rfl, hO, hH, hB⟩ := hrel
    by_cases hlt : k < l.length
    · obtain ⟨g, off, hA, hg, hc⟩ := RH.out (by omega)
      obtain ⟨c0, c1⟩ := hc k hlt
      have d0 := (hB.cell (p := ⟨g, off + k * 2, none⟩) hg).trans c0
      have d1 := (hB.cell (p := ⟨g, off + k * 2 + 1, none⟩) hg).trans c1
      obtain ⟨n, s, hns⟩ : ∃ n s, atL l k = (n, s) := ⟨_, _, rfl⟩
      have hns' : l.getD k (0, 0) = (n, s) := hns
      rw [hns'] at d0 d1
      simp only at d0 d1
      have HNS := hide hns
      have HA := hide hA
      obtain ⟨mx, hmx⟩ : ∃ mx, mx = mxs (l.take k) := ⟨_, rfl⟩
      have HMX := hide hmx
      rw [← hmx]
      have HR := hide hH
      subst hA
      clear c0 c1 hc hns hns' hmx hH
      by_cases hok : okN n s
      · have HO := hide hok
        clear hok
        go_wp2_with fail
        refine (is_yes _ _ _ HO.out).mono ?_
        rintro e w1 ⟨rfl, hb1⟩
        have k1 := lift0 hb1 d1
        have hB1 := below_step hB hb1
        have HR1 := HR.out.after hb1
        have HR2 := hide HR1
        clear hb1 HR1
        go_wp2_with fail
        go_roundw
        case rel => exact ⟨k + 1, by omega, by go_num, by rw [take_at l k hlt, mxs_snoc, HNS.out, HMX.out], hide (by
          rw [take_at l k hlt]
          intro p hp
          rcases List.mem_append.1 hp with hp | hp
          · exact hO.out p hp
          · rw [List.mem_singleton.1 hp, HNS.out]; exact HO.out), HR2.out, hB1⟩
        case measure => simp [intOf]; omega
      · have HO := hide hok
        clear hok
        go_wp2_with fail
        refine (is_no _ _ _ HO.out).mono ?_
        rintro e w1 ⟨rfl, hb1⟩
        have hB1 := below_step hB hb1
        have HR1 := HR.out.after hb1
        have r0 := (HR1.cell 0).trans (show _ = some (Value.int .i64 0) from rfl)
        have r1 := (HR1.cell 1).trans (show _ = some (Value.int .i64 0) from rfl)
        have f0 := HR1.free 0
        have f1 := HR1.free 1
        have l1 := HR1.lt
        have R4 := (HR1.put 0 (.int .i64 0)).put 1 (.int .i64 0)
        have y0 := (R4.cell 0).trans (show _ = some (Value.int .i64 0) from rfl)
        have y1 := (R4.cell 1).trans (show _ = some (Value.int .i64 0) from rfl)
        clear hb1 HR1 R4
        go_wp2_with fail
        exact bodyPost_ret (v := .tuple #[(.agg #[.int .i64 (0), .int .i64 (0)]), .int .i64 2]) (by simp [results, Tryd.results36, go_sem, y0, y1]) rfl ⟨0, 0, 2, rfl, .inr (.inl ⟨by omega, fun h => HO.out (by have := h _ (at_mem l k hlt); rw [HNS.out] at this; exact this), rfl, rfl, rfl⟩), (hB1.setCell (Nat.le_refl _) _).setCell (Nat.le_refl _) _⟩
    · obtain rfl : k = l.length := by omega
      rw [List.take_of_length_le (Nat.le_refl _)] at hO
      have ok := hO.out
      rw [List.take_of_length_le (Nat.le_refl _)]
      obtain ⟨m, hm⟩ : ∃ m, m = mxs l := ⟨_, rfl⟩
      rw [← hm]
      have m0 : 0 ≤ m := by rw [hm]; exact mxs_nonneg l
      have m12 : m ≤ 12 := by rw [hm]; exact mxs_le l ok
      have HM := hide hm
      have OK := hide ok
      have HR := hide hH
      clear hm ok hO hH
      obtain ⟨W1, rfl⟩ : ∃ W, W = wr := ⟨_, rfl⟩
      have hg1 : w.heap.size < W1.heap.size := HR.out.lt
      have dz : (digs (0 : Int).natAbs).length = 0 := by rw [show digs (0 : Int).natAbs = [] from digs_zero]; rfl
      go_wp2_with fail
      go_loopw [7] (fun i wx => ∃ (k : Nat) (P : Option Addr) (cp : Nat), k ≤ l.length ∧ i = .int .i64 k ∧ Holds wx W1.heap.size 42 #[.int .i64 (sgn (tot (l.take k) m)), .slice P (digs (tot (l.take k) m).natAbs).length cp] ∧ (digs (tot (l.take k) m).natAbs).length ≤ cp ∧ cp ≤ maxLen ∧ Row wx P (digs (tot (l.take k) m).natAbs) ∧
        (0 < (digs (tot (l.take k) m).natAbs).length → ∀ x, P = some x → x.block ≠ W1.heap.size) ∧ Holds wx w.heap.size 23 #[.int .i64 0, .int .i64 0] ∧ Below w.heap.size w wx) (fun i _ => l.length - (intOf i).toNat)
      case atStart =>
        refine ⟨0, none, 0, Nat.zero_le _, rfl, ?_, ?_, Nat.zero_le _, ?_, (fun _ x hx => by cases hx), HR.out.alloc _, hB.alloc hB.size _⟩
        · have := heap_alloc_new W1 (.cells #[.int .i64 0, .slice none 0 0] 42)
          unfold Holds
          rw [List.take_zero, tot, dz]
          exact this
        · rw [List.take_zero, tot, dz]; exact Nat.le_refl _
        · rw [List.take_zero, tot]; exact row_nil0 _
      case round =>
        obtain ⟨k, P, cp, hk, rfl, hG, hl1, hl2, hrow, hap, hH, hB2⟩ := hrel
        obtain ⟨z, hz⟩ : ∃ z, z = tot (l.take k) m := ⟨_, rfl⟩
        have hzb : -(1000000000000000000000000000 * 300) ≤ z ∧ z ≤ 1000000000000000000000000000 * 300 := by
          have hlen : (l.take k).length ≤ 300 := by rw [List.length_take]; omega
          have := tot_bound (l.take k) m (fun p hp => OK.out p (List.mem_of_mem_take hp)) (fun p hp => by rw [HM.out]; exact le_mxs l p (List.mem_of_mem_take hp)) m12
          rw [← hz] at this
          omega
        have LZ : Hid ((digs z.natAbs).length ≤ 1000) := hide (by
          have e : (10 : Nat) ^ 30 = 1000000000000000000000000000000 := by decide
          have := digs_len (n := z.natAbs) (k := 30) (by omega)
          omega)
        rw [← hz] at hG hl1 hrow hap
        have HZ := hide hz
        clear hz hzb
        have s0 := (hG.cell 0).trans (show _ = some (Value.int .i64 (sgn z)) from rfl)
        have s1 := (hG.cell 1).trans (show _ = some (Value.slice P (digs z.natAbs).length cp) from rfl)
        have HG := hide hG
        have HH := hide hH
        have HROW := hide hrow
        have HAP := hide hap
        have lG := hG.lt
        have lH := hH.lt
        by_cases hlt : k < l.length
        · obtain ⟨g, off, hA, hg, hc⟩ := RH.out (by omega)
          obtain ⟨c0, c1⟩ := hc k hlt
          have d0 := (hB2.cell (p := ⟨g, off + k * 2, none⟩) hg).trans c0
          have d1 := (hB2.cell (p := ⟨g, off + k * 2 + 1, none⟩) hg).trans c1
          obtain ⟨n, t, hns⟩ : ∃ n t, atL l k = (n, t) := ⟨_, _, rfl⟩
          have hns' : l.getD k (0, 0) = (n, t) := hns
          rw [hns'] at d0 d1
          simp only at d0 d1
          have hmem := at_mem l k hlt
          rw [hns] at hmem
          have HO := hide (OK.out _ hmem)
          have htm : t ≤ m := by rw [HM.out]; exact le_mxs l _ hmem
          have HNS := hide hns
          have X : Hid (tot (l.take (k + 1)) m = z + sca n t m) := hide (by rw [take_at l k hlt, tot_snoc, HNS.out, HZ.out])
          have LV := hide (digs_len_sca HO.out htm m12)
          have CS : Hid (∀ W, Calls Tryd.prog 31 #[(.agg #[.int .i64 (n), .int .i64 (t)]), .int .i64 m] W (NumIs (sca n t m) W)) := hide fun W => at_any n t m W HO.out htm m12
          generalize sca n t m = v at *
          have HA := hide hA
          subst hA
          clear c0 c1 hc hns hns' hmem hG hH hrow hap
          go_wp2_with fail
          go_region_with (first
            | (go_at_call 31; (with_reducible refine (CS.out _).mono ?_); rintro e w1 ⟨B, cb, rfl, lb, lcb, rb, fb, hb1⟩; have G1 : Holds w1 W1.heap.size 42 #[.int .i64 (sgn z), .slice P (digs z.natAbs).length cp] := (by first | exact HG.out.after hb1 | exact HG.out.drew.after hb1); have x0 := (G1.cell 0).trans (show _ = some (Value.int .i64 (sgn z)) from rfl); have x1 := (G1.cell 1).trans (show _ = some (Value.slice P (digs z.natAbs).length cp) from rfl); have B1 : Below w.heap.size w w1 := (by first | exact below_step hB2 hb1 | exact below_step (below_drew hB2) hb1); have R1 : Hid (Holds w1 w.heap.size 23 #[.int .i64 0, .int .i64 0]) := hide (by first | exact HH.out.after hb1 | exact HH.out.drew.after hb1); have RP1 : Hid (Row w1 P (digs z.natAbs)) := hide (by first | exact HROW.out.below hb1 | exact HROW.out.below (below_step (below_drew (Below.refl _ _)) hb1)); have RB := hide rb; have LB := hide lb; have fB : Hid (∀ x, B = some x → W1.heap.size < x.block) := hide (fun x hx => by (have := fb x hx; simp at this; omega)); have lw1 := hb1.size; (try simp at lw1); clear rb lb fb)
            | (go_at_call 30; (with_reducible refine (plus_from z v P B cp cb _ RP1.out RB.out LZ.out ?_ hl1 LB.out hl2 lcb).mono ?_); (have := LV.out; omega); rintro e w2 ⟨Q, cq, rfl, lq, lcq, rq, lo, hb2⟩; have LO := hide lo; have RQ := hide rq; have LQ := hide lq; clear lo rq lq; have G2 := G1.after hb2; have y0 := (G2.cell 0).trans (show _ = some (Value.int .i64 (sgn z)) from rfl); have y1 := (G2.cell 1).trans (show _ = some (Value.slice P (digs z.natAbs).length cp) from rfl); have f0 := G2.free 0; have f1 := G2.free 1; have B2 := below_step B1 hb2; have R2 := hide (R1.out.after hb2); have GG := hide G2))
          all_goals (
            have HB2 := hide B2
            have AP : Hid (0 < (digs (z + v).natAbs).length → ∀ x, Q = some x → x.block ≠ W1.heap.size) := hide (fun h0 x hx => by
              rcases LO.out with h | ⟨h, hn⟩ | ⟨h, hn⟩
              · obtain ⟨g', off', e, ha, hb⟩ := h h0
                rw [hx] at e
                injection e with e
                subst e
                show g' ≠ _
                omega
              · exact HAP.out (by omega) x (by rw [← h, hx])
              · have := fB.out x (by rw [← h, hx])
                omega)
            clear G1 G2 x0 x1 B1 B2 hb1 hb2 R1 RP1 LO
            go_wp2_with fail
            go_roundw
            case rel =>
              refine ⟨k + 1, Q, cq, by omega, by go_num, ?_, ?_, lcq, ?_, ?_, ?_, ?_⟩
              · rw [X.out]; exact (GG.out.put 0 _).put 1 _
              · rw [X.out]; exact LQ.out
              · rw [X.out]; exact (RQ.out.far AP.out _ _).far AP.out _ _
              · rw [X.out]; exact AP.out
              · exact (R2.out.far (by simp; omega) _).far (by simp; omega) _
              · exact (HB2.out.setCell (by simp; omega) _).setCell (by simp; omega) _
            case measure => simp [intOf]; omega)
        · obtain rfl : k = l.length := by omega
          have hzz := HZ.out
          rw [List.take_of_length_le (Nat.le_refl _)] at hzz
          have HZZ := hide hzz
          clear hzz HZ hG hH hrow hap
          go_wp2_with fail
          refine (fit_any z m P cp _ HROW.out).mono ?_
          rintro e w2 ⟨n, t, x, rfl, hN, hb2⟩
          have HN := hide hN
          have R2 := HH.out.after hb2
          have B2 := below_step hB2 hb2
          have r0 := (R2.cell 0).trans (show _ = some (Value.int .i64 0) from rfl)
          have r1 := (R2.cell 1).trans (show _ = some (Value.int .i64 0) from rfl)
          have f0 := R2.free 0
          have f1 := R2.free 1
          have l2 := R2.lt
          have R4 := (R2.put 0 (.int .i64 n)).put 1 (.int .i64 t)
          have y0 := (R4.cell 0).trans (show _ = some (Value.int .i64 n) from rfl)
          have y1 := (R4.cell 1).trans (show _ = some (Value.int .i64 t) from rfl)
          clear hb2 R2 R4 hN hB2 s0 s1 HG
          go_wp2_with fail
          exact bodyPost_ret (v := .tuple #[(.agg #[.int .i64 (n), .int .i64 (t)]), .int .i64 x]) (by simp [results, Tryd.results36, go_sem, y0, y1]) rfl ⟨n, t, x, rfl, .inr (.inr ⟨by omega, OK.out, by
            rw [← HM.out, ← HZZ.out]
            rcases HN.out with ⟨_, h⟩ | ⟨h, _⟩
            · exact h
            · omega⟩), (B2.setCell (Nat.le_refl _) _).setCell (Nat.le_refl _) _⟩
end Go.Proofs.YtgppimdakafniaaDoor
