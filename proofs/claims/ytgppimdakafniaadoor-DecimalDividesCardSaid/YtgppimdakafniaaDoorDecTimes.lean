/- The reference's Times: products of integers as digits. Condition: at most 15 digits each. -/
import Derived.Test.YtgppimdakafniaaDoorDecPlusF
import Derived.RegionTactic
import Derived.BigRegion
namespace Go.Proofs.YtgppimdakafniaaDoor
open Go Go.RowKit Go.PlainAid

def ints (l : List Int) : Array Value := (l.map (Value.int .i64)).toArray
/-- Times's structs and its digits -/
def Timing (w wr : World) (g d : Nat) (va vb : Array Value) (s : Int) (l : List Int) : Prop :=
  w.heap.size + 2 < g ∧ w.heap.size + 2 < d ∧ g ≠ d ∧ Holds wr w.heap.size 42 va ∧ Holds wr (w.heap.size + 1) 42 vb ∧ Holds wr (w.heap.size + 2) 42 #[.int .i64 0, .slice none 0 0] ∧
    Holds wr g 42 #[.int .i64 s, .slice (some ⟨d, 0, none⟩) l.length l.length] ∧ Holds wr d 3 (ints l) ∧ Below w.heap.size w wr

theorem made_ints (n : Nat) : madeCells #[.int .i64 0] n = ints (List.replicate n 0) := by
  unfold madeCells ints
  apply Array.ext
  · simp
  · intro i h1 h2
    simp [Nat.mod_one]
theorem dg_zeros (n j : Nat) : dg (List.replicate n 0) j = 0 := by
  unfold dg
  rw [List.getD_eq_getElem?_getD, List.getElem?_replicate]
  split <;> rfl
theorem ints_size (l : List Int) : (ints l).size = l.length := by simp [ints]
theorem ints_at {l : List Int} {i : Nat} (h : i < l.length) : (ints l)[i]? = some (.int .i64 (dg l i)) := by
  simp [ints, dg, List.getD, h]
theorem ints_put {l : List Int} {i : Nat} (x : Int) : (ints l).setIfInBounds i (.int .i64 x) = ints (l.set i x) := by
  unfold ints
  rw [List.map_set, ← List.setIfInBounds_toArray]
theorem Timing.put {w wr : World} {g d : Nat} {va vb : Array Value} {s : Int} {l : List Int} (h : Timing w wr g d va vb s l) (i : Nat) (x : Int) : Timing w (wr.setCell ⟨d, i, none⟩ (.int .i64 x)) g d va vb s (l.set i x) := by
  obtain ⟨h1, h2, h3, h4, h5, h6, h7, h8, h9⟩ := h
  refine ⟨h1, h2, h3, h4.far (by simp; omega) _, h5.far (by simp; omega) _, h6.far (by simp; omega) _, by rw [List.length_set]; exact h7.far (by simpa using h3) _, ?_, h9.setCell (by simp; omega) _⟩
  have := h8.put i (.int .i64 x)
  rwa [ints_put] at this
theorem Timing.drew {w wr : World} {g d : Nat} {va vb : Array Value} {s : Int} {l : List Int} (h : Timing w wr g d va vb s l) : Timing w wr.drew g d va vb s l := by
  obtain ⟨h1, h2, h3, h4, h5, h6, h7, h8, h9⟩ := h
  exact ⟨h1, h2, h3, h4, h5, h6, h7, h8, below_drew h9⟩
theorem holds_drew {w : World} {g : Nat} {T : TypeId} {cs : Array Value} (h : Holds w g T cs) : Holds w.drew g T cs := h
theorem holds_new4 (w : World) (o p q r : Obj) (cs : Array Value) (T : TypeId) : Holds (((((w.alloc o).alloc p).alloc q).alloc r).alloc (.cells cs T)) (w.heap.size + 1 + 1 + 1 + 1) T cs := by
  have := heap_alloc_new ((((w.alloc o).alloc p).alloc q).alloc r) (.cells cs T); unfold Holds; simpa using this

/-- what Times comes to -/
def TimesPost (la lb : List Int) (sx sy : Int) (w : World) (e : Ending) (w' : World) : Prop :=
  ∃ (k : Nat) (l : List Int) (A : Option Addr) (m : Nat), e = .returned (.agg #[.int .i64 (if k = 0 then 0 else sx * sy), .slice A k m]) ∧ V (dg l) l.length = V (dg la) la.length * V (dg lb) lb.length ∧ (∀ x ∈ l, 0 ≤ x ∧ x ≤ 9) ∧ k ≤ l.length ∧ (∀ i, k ≤ i → i < l.length → dg l i = 0) ∧ (k = 0 ∨ dg l (k - 1) ≠ 0) ∧ k ≤ m ∧ m ≤ maxLen ∧ Row w' A (l.take k) ∧ Below w.heap.size w w'
set_option maxRecDepth 100000 in
set_option maxHeartbeats 32000000 in
theorem times_loop (sx sy : Int) (la lb : List Int) (A B : Option Addr) (ca cb : Nat) (w : World) (ha : Row w A la) (hb : Row w B lb) (la' : la.length ≤ 15) (lb' : lb.length ≤ 15) (ra : ∀ d ∈ la, 0 ≤ d ∧ d ≤ 9) (rb : ∀ d ∈ lb, 0 ≤ d ∧ d ≤ 9)
    (hp : IntKind.i64.wrap (sx * sy) = sx * sy) :
    Calls Tryd.prog 52 #[.agg #[.int .i64 sx, .slice A la.length ca], .agg #[.int .i64 sy, .slice B lb.length cb]] w (TimesPost la lb sx sy w) := by
  have RA := hide ha
  have RB := hide hb
  have QA := hide ra
  have QB := hide rb
  clear ha hb ra rb
  obtain ⟨n, hn⟩ : ∃ n, n = la.length + lb.length + 1 := ⟨_, rfl⟩
  have hn2 : n ≤ 31 := by omega
  have N := hide hn
  have hs1 : IntKind.i64.wrap ((la.length : Int) + (lb.length : Int)) = (la.length : Int) + (lb.length : Int) := IntWalk.i64_in _ (by omega)
  have hs2 : IntKind.i64.wrap ((la.length : Int) + (lb.length : Int) + 1) = (n : Int) := by rw [IntWalk.i64_in _ (by omega)]; omega
  have hmk := run_make_row' (P := Tryd.prog) 40 3 (.int .i64 0) 8 Tryd.underlying40 (by kernel_rfl) rfl .i64 .i64 n (by omega) (by omega)
  clear hn
  go_enter Tryd.func52, Tryd.ntmps52
  go_wp2_with fail
  go_upto_region 1 with fail
  go_cut [5] (fun s5 wx => ∃ g d : Nat, s5 = .pointer (some ⟨g, 0, none⟩) ∧ Timing w wx g d #[.int .i64 sx, .slice A la.length ca] #[.int .i64 sy, .slice B lb.length cb] (sx * sy) (List.replicate n 0))
  case first =>
    go_region
    all_goals (go_wp2_with fail; go_meet)
    all_goals first
      | exact ⟨_, w.heap.size + 1 + 1 + 1, rfl, by omega, by omega, by omega, holds_drew (Holds.alloc (Holds.alloc (Holds.alloc (Holds.alloc (show Holds _ _ _ _ from heap_alloc_new w _) _) _) _) _), holds_drew (Holds.alloc (Holds.alloc (Holds.alloc (holds_new1 w _ _ _) _) _) _), holds_drew (Holds.alloc (Holds.alloc (holds_new2 w _ _ _ _) _) _),
          holds_drew (by rw [List.length_replicate]; exact holds_new4 w _ _ _ _ _ _), holds_drew (by rw [← made_ints]; exact Holds.alloc (holds_new3 w _ _ _ _ _) _), below_drew (below_alloc (below_alloc (below_alloc (below2 _ _ _) _) _) _)⟩
      | exact ⟨_, w.heap.size + 1 + 1 + 1 + 1, rfl, by omega, by omega, by omega, holds_drew (Holds.alloc (Holds.alloc (Holds.alloc (Holds.alloc (show Holds _ _ _ _ from heap_alloc_new w _) _) _) _) _), holds_drew (Holds.alloc (Holds.alloc (Holds.alloc (holds_new1 w _ _ _) _) _) _), holds_drew (Holds.alloc (Holds.alloc (holds_new2 w _ _ _ _) _) _),
          holds_drew (by rw [List.length_replicate]; exact Holds.alloc (holds_new3 w _ _ _ _ _) _), holds_drew (by rw [← made_ints]; exact holds_new4 w _ _ _ _ _ _), below_drew (below_alloc (below_alloc (below_alloc (below2 _ _ _) _) _) _)⟩
  case rest =>
    obtain ⟨g, d, rfl, hT⟩ := hcut
    have T0 := hide hT
    clear hT hmk hs1 hs2
    go_wp2_with fail
    go_loopw [6] (fun i wr => ∃ (k : Nat) (l : List Int), k ≤ la.length ∧ i = .int .i64 k ∧ l.length = n ∧ Timing w wr g d #[.int .i64 sx, .slice A la.length ca] #[.int .i64 sy, .slice B lb.length cb] (sx * sy) l ∧ Hid (V (dg l) n = V (dg la) k * V (dg lb) lb.length) ∧ Hid (∀ j, 0 ≤ dg l j ∧ dg l j ≤ 81 * k)) (fun i _ => la.length - (intOf i).toNat)
    case atStart => exact ⟨0, List.replicate n 0, Nat.zero_le _, rfl, List.length_replicate, T0.out, by unfold Hid; rw [V_zeros]; simp [V], fun j => by rw [dg_zeros]; omega⟩
    case round =>
      obtain ⟨k, l, hk, rfl, hl, hT, hV, hD⟩ := hrel
      have a1 : wr.cell? ⟨w.heap.size, 1, none⟩ = some (.slice A la.length ca) := (hT.2.2.2.1.cell 1).trans rfl
      have b1 : wr.cell? ⟨w.heap.size + 1, 1, none⟩ = some (.slice B lb.length cb) := (hT.2.2.2.2.1.cell 1).trans rfl
      have TH := hide hT
      by_cases hlt : k < la.length
      · clear hT a1 b1
        obtain ⟨dk, ek⟩ : ∃ x, x = dg la k := ⟨_, rfl⟩
        obtain ⟨k0, k1⟩ := dg_range QA.out k
        rw [← ek] at k0 k1
        have EK := hide ek
        obtain ⟨gA, oA, hA, hgA, hcA⟩ := RA.out (by omega)
        subst hA
        have ca0 := hcA k hlt
        rw [← ek] at ca0
        clear hcA ek
        have hBW : Below w.heap.size w wr := TH.out.2.2.2.2.2.2.2.2
        have a1 : wr.cell? ⟨w.heap.size, 1, none⟩ = some (.slice (some ⟨gA, oA, none⟩) la.length ca) := (TH.out.2.2.2.1.cell 1).trans rfl
        have CA := hide ca0
        clear ca0
        go_wp2_with fail
        clear a1
        go_loopw [7] (fun j wr => ∃ (m : Nat) (l : List Int), m ≤ lb.length ∧ j = .int .i64 m ∧ l.length = n ∧ Timing w wr g d #[.int .i64 sx, .slice (some ⟨gA, oA, none⟩) la.length ca] #[.int .i64 sy, .slice B lb.length cb] (sx * sy) l ∧ Hid (V (dg l) n = V (dg la) k * V (dg lb) lb.length + dk * 10 ^ k * V (dg lb) m) ∧ Hid (∀ j, 0 ≤ dg l j ∧ dg l j ≤ 81 * k + 81 ∧ (k + m ≤ j → dg l j ≤ 81 * k))) (fun j _ => lb.length - (intOf j).toNat)
        case atStart => exact ⟨0, l, Nat.zero_le _, rfl, hl, TH.out, by unfold Hid; rw [hV.out]; simp [V], fun j => by have := hD.out j; omega⟩
        case round =>
          clear TH hV hD hl hBW
          obtain ⟨m, l, hm, rfl, hl, hT, hV, hD⟩ := hrel
          have TH := hide hT
          have hBW : Below w.heap.size w wr := hT.2.2.2.2.2.2.2.2
          have a1 : wr.cell? ⟨w.heap.size, 1, none⟩ = some (.slice (some ⟨gA, oA, none⟩) la.length ca) := (hT.2.2.2.1.cell 1).trans rfl
          have b1 : wr.cell? ⟨w.heap.size + 1, 1, none⟩ = some (.slice B lb.length cb) := (hT.2.2.2.2.1.cell 1).trans rfl
          by_cases hlt2 : m < lb.length
          · obtain ⟨dm, em⟩ : ∃ x, x = dg lb m := ⟨_, rfl⟩
            obtain ⟨m0, m1⟩ := dg_range QB.out m
            rw [← em] at m0 m1
            have EM := hide em
            obtain ⟨gB, oB, hB, hgB, hcB⟩ := RB.out (by omega)
            subst hB
            have cb0 := hcB m hlt2
            rw [← em] at cb0
            clear hcB em
            have ca1 : wr.cell? ⟨gA, oA + k, none⟩ = some (.int .i64 dk) := (hBW.cell (p := ⟨gA, oA + k, none⟩) hgA).trans CA.out
            have cb1 : wr.cell? ⟨gB, oB + m, none⟩ = some (.int .i64 dm) := (hBW.cell (p := ⟨gB, oB + m, none⟩) hgB).trans cb0
            clear cb0
            have hkm : k + m < n := by have := N.out; omega
            have o1 : wr.cell? ⟨g, 1, none⟩ = some (.slice (some ⟨d, 0, none⟩) n n) := by
              have := (hT.2.2.2.2.2.2.1.cell 1).trans rfl
              rwa [hl] at this
            obtain ⟨dq, eo⟩ : ∃ x, x = dg l (k + m) := ⟨_, rfl⟩
            have od : wr.cell? ⟨d, k + m, none⟩ = some (.int .i64 dq) := by rw [eo]; exact (hT.2.2.2.2.2.2.2.1.cell (k + m)).trans (ints_at (by omega))
            have of_ : wr.frozen? ⟨d, k + m, none⟩ = false := hT.2.2.2.2.2.2.2.1.free (k + m)
            have hdo := hD.out (k + m)
            rw [← eo] at hdo
            have EO := hide eo
            obtain ⟨o2, o3, o4⟩ := hdo
            clear eo hT
            have pr0 : 0 ≤ dk * dm := Int.mul_nonneg k0 m0
            have pr1 : dk * dm ≤ 81 := by
              have h1 : dk * dm ≤ dk * 9 := Int.mul_le_mul_of_nonneg_left m1 k0
              omega
            have u0 : IntKind.i64.wrap (dk * dm) = dk * dm := IntWalk.i64_in _ (by omega)
            have u1 : IntKind.i64.wrap (dq + dk * dm) = dq + dk * dm := IntWalk.i64_in _ (by omega)
            have u2 : IntKind.i64.wrap ((k : Int) + (m : Int)) = (k : Int) + (m : Int) := IntWalk.i64_in _ (by omega)
            have u3 : ((k : Int) + (m : Int)).toNat = k + m := by omega
            have u4 : (0 : Int) ≤ (k : Int) + (m : Int) := by omega
            have u5 : (k : Int) + (m : Int) < (n : Int) := by omega
            have HL := hide hl
            have O4 := hide (o4 (Nat.le_refl _))
            clear o4 hl
            go_wp2_with fail
            go_region
            clear u0 u1 u2 u3 u4 u5 a1 b1 ca1 cb1 o1 od of_
            go_wp2_with fail
            go_roundw
            case rel =>
              have hl := HL.out
              have hV' : V (dg (l.set (k + m) (dq + dk * dm))) n = V (dg l) n + dk * dm * 10 ^ (k + m) := by
                have := V_set (l := l) (j := k + m) (by omega) (dk * dm)
                rwa [hl, ← EO.out] at this
              refine ⟨m + 1, l.set (k + m) (dq + dk * dm), by omega, by go_num, by rw [List.length_set]; exact hl, ?_, ?_, fun j => ?_⟩
              · first
                  | exact (TH.out.put _ _).drew
                  | exact TH.out.drew.put _ _
                  | exact TH.out.put _ _
              · unfold Hid
                rw [hV', hV.out, V, ← EM.out, Int.pow_add, Int.mul_add, Int.add_assoc]
                congr 2
                rw [Int.mul_assoc dk dm, Int.mul_assoc dk (10 ^ k), Int.mul_left_comm dm]
              · rw [dg_set (by omega)]
                have h1 := hD.out j
                have h2 := O4.out
                split <;> omega
            case measure => simp [intOf]; omega
          · obtain rfl : lb.length = m := by omega
            clear a1
            go_wp2_with fail
            go_roundw
            case rel => exact ⟨k + 1, l, by omega, by go_num, hl, TH.out, by unfold Hid; rw [hV.out, V, ← EK.out, Int.add_mul], fun j => by have := hD.out j; omega⟩
            case measure => simp [intOf]; omega
      · obtain rfl : la.length = k := by omega
        have hD0 : Hid (∀ j, 0 ≤ dg l j ∧ dg l j ≤ 1300) := fun j => by have := hD.out j; omega
        clear hT
        go_wp2_with fail
        clear a1 b1
        go_loopw [8] (fun i wr => ∃ (q : Nat) (l : List Int), q + 1 ≤ n ∧ i = .int .i64 q ∧ l.length = n ∧ Timing w wr g d #[.int .i64 sx, .slice A la.length ca] #[.int .i64 sy, .slice B lb.length cb] (sx * sy) l ∧ Hid (V (dg l) n = V (dg la) la.length * V (dg lb) lb.length) ∧ Hid (∀ j, 0 ≤ dg l j ∧ dg l j ≤ 1500 ∧ (j < q → dg l j ≤ 9) ∧ (q < j → dg l j ≤ 1300))) (fun i _ => n - (intOf i).toNat)
        case atStart => exact ⟨0, l, by have := N.out; omega, rfl, hl, TH.out, hV.out, fun j => by have := hD0.out j; omega⟩
        case round =>
          clear TH hV hD hD0 hl
          obtain ⟨q, l, hq, rfl, hl, hT, hV, hD⟩ := hrel
          have TH := hide hT
          have HL := hide hl
          have o1 : wr.cell? ⟨g, 1, none⟩ = some (.slice (some ⟨d, 0, none⟩) n n) := by
            have := (hT.2.2.2.2.2.2.1.cell 1).trans rfl
            rwa [hl] at this
          by_cases hlt3 : q + 1 < n
          · obtain ⟨x, ex⟩ : ∃ x, x = dg l q := ⟨_, rfl⟩
            obtain ⟨y, ey⟩ : ∃ y, y = dg l (q + 1) := ⟨_, rfl⟩
            have ox : wr.cell? ⟨d, q, none⟩ = some (.int .i64 x) := by rw [ex]; exact (hT.2.2.2.2.2.2.2.1.cell q).trans (ints_at (by omega))
            have oy : wr.cell? ⟨d, q + 1, none⟩ = some (.int .i64 y) := by rw [ey]; exact (hT.2.2.2.2.2.2.2.1.cell (q + 1)).trans (ints_at (by omega))
            have fx : wr.frozen? ⟨d, q, none⟩ = false := hT.2.2.2.2.2.2.2.1.free q
            have fy : wr.frozen? ⟨d, q + 1, none⟩ = false := hT.2.2.2.2.2.2.2.1.free (q + 1)
            obtain ⟨x0, x1, -, -⟩ := hD.out q
            obtain ⟨y0, -, -, y1⟩ := hD.out (q + 1)
            rw [← ex] at x0 x1
            rw [← ey] at y0 y1
            have y2 := y1 (by omega)
            have EX := hide ex
            have EY := hide ey
            have u1 : IntKind.i64.wrap ((q : Int) + 1) = (q : Int) + 1 := IntWalk.i64_in _ (by omega)
            have u2 : ((q : Int) + 1).toNat = q + 1 := by omega
            have u3 : (0 : Int) ≤ (q : Int) + 1 := by omega
            have u4 : (q : Int) + 1 < (n : Int) := by omega
            have u5 : x.tdiv 10 = x / 10 := Int.tdiv_eq_ediv_of_nonneg x0
            have u6 : IntKind.i64.wrap (x / 10) = x / 10 := IntWalk.i64_in _ (by omega)
            have u7 : IntKind.i64.wrap (y + x / 10) = y + x / 10 := IntWalk.i64_in _ (by omega)
            have u8 : x.tmod 10 = x % 10 := Int.tmod_eq_emod_of_nonneg x0
            clear y1 ex ey hT hl
            go_wp2_with fail
            have hgd : g ≠ d := TH.out.2.2.1
            have o1' : (wr.setCell ⟨d, q + 1, none⟩ (.int .i64 (y + x / 10))).cell? ⟨g, 1, none⟩ = some (.slice (some ⟨d, 0, none⟩) n n) := (World.cell?_setCell_other _ _ _ _ (by first | (simp; done) | (simp; omega))).trans o1
            have ox' : (wr.setCell ⟨d, q + 1, none⟩ (.int .i64 (y + x / 10))).cell? ⟨d, q, none⟩ = some (.int .i64 x) := (World.cell?_setCell_other _ _ _ _ (by simp)).trans ox
            have fx' : (wr.setCell ⟨d, q + 1, none⟩ (.int .i64 (y + x / 10))).frozen? ⟨d, q, none⟩ = false := by simpa [go_sem] using fx
            have hq' : (q : Int) < (n : Int) := by omega
            go_region
            all_goals (
              go_wp2_with fail
              go_region
              all_goals (
                clear u1 u2 u3 u4 u5 u6 u7 u8 o1 ox oy fx fy o1' ox' fx'
                go_wp2_with fail
                go_roundw
                case rel =>
                  have hl := HL.out
                  have hc : V (dg ((l.set (q + 1) (y + x / 10)).set q (x % 10))) n = V (dg l) n := by
                    have := V_carry (l := l) (j := q) (by omega) (x % 10) (x / 10) (by rw [← EX.out]; omega)
                    rwa [hl, ← EY.out] at this
                  refine ⟨q + 1, (l.set (q + 1) (y + x / 10)).set q (x % 10), by omega, by go_num, by rw [List.length_set, List.length_set]; exact hl, ?_, ?_, fun j => ?_⟩
                  · first
                      | exact (((TH.out.put _ _).drew).put _ _).drew
                      | exact ((TH.out.put _ _).put _ _).drew.drew
                      | exact ((TH.out.put _ _).put _ _).drew
                      | exact (TH.out.drew.drew.put _ _).put _ _
                  · unfold Hid; rw [hc, hV.out]
                  · rw [dg_set (by rw [List.length_set]; omega), dg_set (by omega)]
                    have h1 := hD.out j
                    split
                    · omega
                    · split <;> omega
                case measure => simp [intOf]; omega))
          · obtain rfl : n = q + 1 := by omega
            have TR := fun W => trim_any (sx * sy) (some ⟨d, 0, none⟩) (q + 1) l W
            simp only [hl] at TR
            have hBW : Below w.heap.size w wr := hT.2.2.2.2.2.2.2.2
            have B3 := hT.2.2.2.2.2.1
            have hrow : Row wr (some ⟨d, 0, none⟩) l := fun _ => ⟨d, 0, rfl, hT.2.2.2.2.2.2.2.1.lt, fun i hi => by rw [Nat.zero_add]; exact (hT.2.2.2.2.2.2.2.1.cell i).trans (ints_at hi)⟩
            have o0 : wr.cell? ⟨g, 0, none⟩ = some (.int .i64 (sx * sy)) := (hT.2.2.2.2.2.2.1.cell 0).trans rfl
            have hd2 : w.heap.size + 2 < d := hT.2.1
            have RH := hide hrow
            have TRH := hide TR
            clear hT TR hrow hl
            go_wp2_with fail
            refine (TRH.out _ RH.out (Nat.le_refl _) (by unfold maxLen; omega)).mono ?_
            rintro e w2 ⟨j, hj, hz, hl, rfl, hb2⟩
            have Z := hide hz
            have HL2 := hide hl
            have R3 := B3.below hb2
            have r0 : w2.cell? ⟨w.heap.size + 1 + 1, 0, none⟩ = some (.int .i64 0) := (R3.cell 0).trans rfl
            have r1 : w2.cell? ⟨w.heap.size + 1 + 1, 1, none⟩ = some (.slice none 0 0) := (R3.cell 1).trans rfl
            have f0 : w2.frozen? ⟨w.heap.size + 1 + 1, 0, none⟩ = false := R3.free 0
            have f1 : w2.frozen? ⟨w.heap.size + 1 + 1, 1, none⟩ = false := R3.free 1
            have RW := hide (num_kept (b := w.heap.size + 1 + 1) ((RH.out.below hb2).take j) (fun x hx => by injection hx with hx; subst hx; simp; omega))
            have JL := hide hj
            have hBB : Below w.heap.size w w2 := below_step hBW hb2
            generalize hsg : (if j = 0 then (0 : Int) else sx * sy) = sg at *
            have SG := hide hsg
            clear hz hl hsg hj R3 B3 hb2 o0 o1 TRH
            go_wp2_with fail
            refine bodyPost_ret (v := .agg #[.int .i64 sg, .slice (some ⟨d, 0, none⟩) j (q + 1)]) (by simp [results, Tryd.results52, go_sem, r0, r1]) rfl ?_
            have hP : V (dg la) la.length * V (dg lb) lb.length < 10 ^ q := by
              have ba := V_bound (f := dg la) (n := la.length) fun i _ => dg_range QA.out i
              have bb := V_bound (f := dg lb) (n := lb.length) fun i _ => dg_range QB.out i
              have := mul_lt_p10 (a := la.length) (b := lb.length) ba.1 ba.2 bb.2
              rwa [show la.length + lb.length = q by have := N.out; omega] at this
            have hlast : dg l q = 0 := V_last (n := q) (fun i hi => (hD.out i).1) (hD.out q).1 (by rw [hV.out]; exact hP)
            refine ⟨j, l, some ⟨d, 0, none⟩, q + 1, by rw [SG.out], by rw [HL.out]; exact hV.out, fun y hy => ?_, JL.out, Z.out, HL2.out, by have := JL.out; have := HL.out; omega, by unfold maxLen; omega, RW.out _ _, (hBB.setCell (by simp; omega) _).setCell (by simp; omega) _⟩
            obtain ⟨i, hi, rfl⟩ := List.getElem_of_mem hy
            have e : l[i] = dg l i := by simp [dg, List.getD, hi]
            rw [e]
            have h1 := hD.out i
            have h2 := HL.out
            by_cases hiq : i < q
            · omega
            · obtain rfl : i = q := by omega
              omega
end Go.Proofs.YtgppimdakafniaaDoor
