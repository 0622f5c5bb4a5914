/- What Covers returns on parts. No condition. -/
import Derived.Test.YtllfeoinmjbeaaaDoorPcDef
namespace Go.Proofs.YtllfeoinmjbeaaaDoor.Pc
open Go Go.RowKit Go.PlainAid

theorem below_step {w a b : World} (h : Below w.heap.size w a) (k : Below a.heap.size a b) : Below w.heap.size w b := h.trans (k.mono h.size)

set_option maxRecDepth 100000 in
set_option maxHeartbeats 4000000 in
theorem covers_any (A B : Option Addr) (la lb : List Pt) (ca cb : Nat) (w : World) (ha : PtRow w A la) (hb : PtRow w B lb) (hla : la.length ≤ 20) (hlb : lb.length ≤ 20) :
    Calls Tryd.prog 5 #[.slice A la.length ca, .slice B lb.length cb] w fun e w' => e = .returned (.bool (decide (cov la lb))) ∧ Below w.heap.size w w' := by
  have HA := hide ha
  have HB := hide hb
  clear ha hb
  by_cases hlen : la.length ≤ lb.length
  · have hlen' : ¬ lb.length < la.length := by omega
    go_enter Tryd.func5, Tryd.ntmps5
    go_wp2_with fail
    go_loopw [14] (fun x wr => ∃ k : Nat, k ≤ la.length ∧ x = .int .i64 k ∧ (∀ j, j < k → c1 (atP la j) (atP lb j)) ∧ Below w.heap.size w wr) (fun x _ => la.length - (intOf x).toNat)
    case atStart => exact ⟨0, Nat.zero_le _, rfl, fun j hj => by omega, Below.refl _ _⟩
    case round =>
      obtain ⟨k, hk, rfl, hall, hb⟩ := hrel
      by_cases hlt : k < la.length
      · obtain ⟨g, off, rfl, hg, hc⟩ := HA.out (by omega)
        obtain ⟨g', off', rfl, hg', hc'⟩ := HB.out (by omega)
        obtain ⟨p0, p1, p2⟩ := hc k hlt
        obtain ⟨q0, q1, q2⟩ := hc' k (by omega)
        have d0 := (hb.cell (p := ⟨g, off + k * 3, none⟩) hg).trans p0
        have d1 := (hb.cell (p := ⟨g, off + k * 3 + 1, none⟩) hg).trans p1
        have d2 := (hb.cell (p := ⟨g, off + k * 3 + 2, none⟩) hg).trans p2
        have e0 := (hb.cell (p := ⟨g', off' + k * 3, none⟩) hg').trans q0
        have e1 := (hb.cell (p := ⟨g', off' + k * 3 + 1, none⟩) hg').trans q1
        have e2 := (hb.cell (p := ⟨g', off' + k * 3 + 2, none⟩) hg').trans q2
        obtain ⟨a, b, s, hp⟩ : ∃ a b s, atP la k = (a, b, s) := ⟨_, _, _, rfl⟩
        obtain ⟨a', b', s', hq⟩ : ∃ a b s, atP lb k = (a, b, s) := ⟨_, _, _, rfl⟩
        rw [hp] at d0 d1 d2
        rw [hq] at e0 e1 e2
        simp only at d0 d1 d2 e0 e1 e2
        have hgr : g < wr.heap.size := Nat.lt_of_lt_of_le hg hb.size
        have hgr' : g' < wr.heap.size := Nat.lt_of_lt_of_le hg' hb.size
        have hi0 : (0 : Int) ≤ (k : Int) := Int.natCast_nonneg _
        have hi1 : (k : Int) < (la.length : Int) := by omega
        have hi2 : (k : Int) < (lb.length : Int) := by omega
        have HALL := hide hall
        clear p0 p1 p2 q0 q1 q2 hc hc' hall
        have n0 := World.new_ne wr _ e0
        have n1 := World.new_ne wr _ e1
        have n2 := World.new_ne wr _ e2
        clear n0 n1 n2
        have x0 : (wr.alloc (Obj.cells #[.int .i64 a, .int .i64 b, .string s] 40)).cell? ⟨wr.heap.size, 0, none⟩ = some (.int .i64 a) := cell_of_row _ _ 0 _ _ _ (heap_alloc_new wr _)
        have x1 : (wr.alloc (Obj.cells #[.int .i64 a, .int .i64 b, .string s] 40)).cell? ⟨wr.heap.size, 1, none⟩ = some (.int .i64 b) := cell_of_row _ _ 1 _ _ _ (heap_alloc_new wr _)
        have x2 : (wr.alloc (Obj.cells #[.int .i64 a, .int .i64 b, .string s] 40)).cell? ⟨wr.heap.size, 2, none⟩ = some (.string s) := cell_of_row _ _ 2 _ _ _ (heap_alloc_new wr _)
        have hBX := hb.alloc hb.size (Obj.cells #[.int .i64 a, .int .i64 b, .string s] 40)
        have hWX := (Below.refl wr.heap.size wr).alloc (Nat.le_refl _) (Obj.cells #[.int .i64 a, .int .i64 b, .string s] 40)
        have y0 := (hWX.cell (p := ⟨g', off' + k * 3, none⟩) hgr').trans e0
        have y1 := (hWX.cell (p := ⟨g', off' + k * 3 + 1, none⟩) hgr').trans e1
        have y2 := (hWX.cell (p := ⟨g', off' + k * 3 + 2, none⟩) hgr').trans e2
        have lX : wr.heap.size < (wr.alloc (Obj.cells #[.int .i64 a, .int .i64 b, .string s] 40)).heap.size := by simp
        obtain ⟨ia, hia⟩ : ∃ ia, decide (isA (a, b, s)) = ia := ⟨_, rfl⟩
        have CI : Hid (∀ W, Calls Tryd.prog 11 #[.agg #[.int .i64 a, .int .i64 b, .string s]] W fun e w' => e = .returned (.bool ia) ∧ Below W.heap.size W w') := hide fun W => by rw [← hia]; exact isAll_any a b s W
        have NC : Hid (¬ c1 (a, b, s) (a', b', s') → decide (cov la lb) = false) := hide fun h => decide_eq_false fun hc => h (by rw [← hp, ← hq]; exact hc.2 k hlt)
        have NX : Hid (c1 (a, b, s) (a', b', s') → ∀ j, j < k + 1 → c1 (atP la j) (atP lb j)) := hide fun h j hj => by
          by_cases hjk : j = k
          · subst hjk; rw [hp, hq]; exact h
          · exact HALL.out j (by omega)
        have HIA := hide hia
        clear hia
        go_wp2_with fail
        generalize wr.alloc (Obj.cells #[.int .i64 a, .int .i64 b, .string s] 40) = X at *
        generalize wr.heap.size = H at *
        have lg := Nat.lt_trans hgr' lX
        clear e0 e1 e2 d0 d1 d2 hWX hgr
        have sp : (¬ a = a') ∨ (a = a' ∧ ¬ b = b') ∨ (a = a' ∧ b = b' ∧ ¬ s.toList = s'.toList) ∨ (a = a' ∧ b = b' ∧ s = s') := by
          by_cases f1 : a = a' <;> by_cases f2 : b = b' <;> by_cases f3 : s.toList = s'.toList <;> simp [f1, f2, f3] <;> exact text_eq f3
        rcases sp with f1 | ⟨rfl, f2⟩ | ⟨rfl, rfl, f3⟩ | ⟨rfl, rfl, rfl⟩
        · cases ia
          · skip
            first
              | go_region_with (first
                 | (go_at_call 11; (with_reducible refine (CI.out _).mono ?_); rintro e w2 ⟨rfl, hb2⟩; have z0 := (hb2.cell (p := ⟨g', off' + k * 3, none⟩) lg).trans y0; have BB := below_step hBX.drew hb2))
              | fail
            all_goals (go_wp2_with fail)
            all_goals first
              | (go_returns
                 have hn := NC.out (fun h => h.elim (fun ⟨h1, h2, h3⟩ => f1 h1) (fun ⟨h1, h2⟩ => by
                   simp only at h2
                   first
                   | exact of_decide_eq_false HIA.out h1
                   | contradiction
                   | omega))
                 refine ⟨?_, BB⟩
                 first
                 | (rw [hn]; done)
                 | (rw [hn]; rfl)
                 | simp [hn])
              | contradiction
          · by_cases k2 : a' = 2
            · subst k2
              first
                | go_region_with (first
                   | (go_at_call 11; (with_reducible refine (CI.out _).mono ?_); rintro e w2 ⟨rfl, hb2⟩; have z0 := (hb2.cell (p := ⟨g', off' + k * 3, none⟩) lg).trans y0; have BB := below_step hBX.drew hb2))
                | fail
              all_goals (go_wp2_with fail)
              all_goals first
                | (go_returns
                   have hn := NC.out (fun h => h.elim (fun ⟨h1, h2, h3⟩ => f1 h1) (fun ⟨h1, h2⟩ => by
                     simp only at h2
                     first
                     | exact of_decide_eq_false HIA.out h1
                     | contradiction
                     | omega))
                   refine ⟨?_, BB⟩
                   first
                   | (rw [hn]; done)
                   | (rw [hn]; rfl)
                   | simp [hn])
                | (go_roundw
                   case rel => exact ⟨k + 1, by omega, by go_num, NX.out (.inr ⟨of_decide_eq_true HIA.out, by first | assumption | rfl⟩), BB⟩
                   case measure => simp [intOf]; omega)
            · have k2' : (a' == 2) = false := by simpa using k2
              first
                | go_region_with (first
                   | (go_at_call 11; (with_reducible refine (CI.out _).mono ?_); rintro e w2 ⟨rfl, hb2⟩; have z0 := (hb2.cell (p := ⟨g', off' + k * 3, none⟩) lg).trans y0; have BB := below_step hBX.drew hb2))
                | fail
              all_goals (go_wp2_with fail)
              all_goals first
                | (go_returns
                   have hn := NC.out (fun h => h.elim (fun ⟨h1, h2, h3⟩ => f1 h1) (fun ⟨h1, h2⟩ => by
                     simp only at h2
                     first
                     | exact of_decide_eq_false HIA.out h1
                     | contradiction
                     | omega))
                   refine ⟨?_, BB⟩
                   first
                   | (rw [hn]; done)
                   | (rw [hn]; rfl)
                   | simp [hn])
                | contradiction
        · cases ia
          · skip
            first
              | go_region_with (first
                 | (go_at_call 11; (with_reducible refine (CI.out _).mono ?_); rintro e w2 ⟨rfl, hb2⟩; have z0 := (hb2.cell (p := ⟨g', off' + k * 3, none⟩) lg).trans y0; have BB := below_step hBX.drew hb2))
              | fail
            all_goals (go_wp2_with fail)
            all_goals first
              | (go_returns
                 have hn := NC.out (fun h => h.elim (fun ⟨h1, h2, h3⟩ => f2 h2) (fun ⟨h1, h2⟩ => by
                   simp only at h2
                   first
                   | exact of_decide_eq_false HIA.out h1
                   | contradiction
                   | omega))
                 refine ⟨?_, BB⟩
                 first
                 | (rw [hn]; done)
                 | (rw [hn]; rfl)
                 | simp [hn])
              | contradiction
          · have k3 : a = 3 := (of_decide_eq_true HIA.out).1
            subst k3
            first
              | go_region_with (first
                 | (go_at_call 11; (with_reducible refine (CI.out _).mono ?_); rintro e w2 ⟨rfl, hb2⟩; have z0 := (hb2.cell (p := ⟨g', off' + k * 3, none⟩) lg).trans y0; have BB := below_step hBX.drew hb2))
              | fail
            all_goals (go_wp2_with fail)
            all_goals first
              | (go_returns
                 have hn := NC.out (fun h => h.elim (fun ⟨h1, h2, h3⟩ => f2 h2) (fun ⟨h1, h2⟩ => by
                   simp only at h2
                   first
                   | exact of_decide_eq_false HIA.out h1
                   | contradiction
                   | omega))
                 refine ⟨?_, BB⟩
                 first
                 | (rw [hn]; done)
                 | (rw [hn]; rfl)
                 | simp [hn])
              | contradiction
        · cases ia
          · skip
            first
              | go_region_with (first
                 | (go_at_call 11; (with_reducible refine (CI.out _).mono ?_); rintro e w2 ⟨rfl, hb2⟩; have z0 := (hb2.cell (p := ⟨g', off' + k * 3, none⟩) lg).trans y0; have BB := below_step hBX.drew hb2))
              | fail
            all_goals (go_wp2_with fail)
            all_goals first
              | (go_returns
                 have hn := NC.out (fun h => h.elim (fun ⟨h1, h2, h3⟩ => f3 h3) (fun ⟨h1, h2⟩ => by
                   simp only at h2
                   first
                   | exact of_decide_eq_false HIA.out h1
                   | contradiction
                   | omega))
                 refine ⟨?_, BB⟩
                 first
                 | (rw [hn]; done)
                 | (rw [hn]; rfl)
                 | simp [hn])
              | contradiction
          · have k3 : a = 3 := (of_decide_eq_true HIA.out).1
            subst k3
            first
              | go_region_with (first
                 | (go_at_call 11; (with_reducible refine (CI.out _).mono ?_); rintro e w2 ⟨rfl, hb2⟩; have z0 := (hb2.cell (p := ⟨g', off' + k * 3, none⟩) lg).trans y0; have BB := below_step hBX.drew hb2))
              | fail
            all_goals (go_wp2_with fail)
            all_goals first
              | (go_returns
                 have hn := NC.out (fun h => h.elim (fun ⟨h1, h2, h3⟩ => f3 h3) (fun ⟨h1, h2⟩ => by
                   simp only at h2
                   first
                   | exact of_decide_eq_false HIA.out h1
                   | contradiction
                   | omega))
                 refine ⟨?_, BB⟩
                 first
                 | (rw [hn]; done)
                 | (rw [hn]; rfl)
                 | simp [hn])
              | contradiction
        · go_quiet (fail)
          go_wp2_with fail
          go_roundw
          case rel => exact ⟨k + 1, by omega, by go_num, NX.out (refl1 _), ⟨hBX.os, hBX.tape, hBX.output, hBX.size, hBX.block⟩⟩
          case measure => simp [intOf]; omega
      · obtain rfl : k = la.length := by omega
        go_wp2_with fail
        go_returns
        exact ⟨by rw [decide_eq_true (show cov la lb from ⟨hlen, hall⟩)]; rfl, hb⟩
  · go_enter Tryd.func5, Tryd.ntmps5
    go_wp2_with fail
    go_returns
    exact ⟨by simp [cov, hlen], Below.refl _ _⟩
end Go.Proofs.YtllfeoinmjbeaaaDoor.Pc
