/- What the reference's Parse returns, for every text. No condition. -/
import Derived.Test.YtgppimdakafniaaDoorDecPar
namespace Go.Proofs.YtgppimdakafniaaDoor
open Go Go.RowKit Go.PlainAid

/-- what the reference has read of the first k bytes -/
def stB (s : ByteArray) (k : Nat) : Int × Nat × Bool := rst (s.data.toList.take k) (0, 0, false)
theorem stB_succ (s : ByteArray) (k : Nat) (h : k < s.size) (v : Int) (c : Nat) (p : Bool) (hs : stB s k = (v, c, p)) :
    stB s (k + 1) = if 48 ≤ bt s k ∧ bt s k ≤ 57 then (10 * v + (bt s k - 48), if (p || decide (bt s k = 46)) then c + 1 else c, p || decide (bt s k = 46)) else (v, c, p || decide (bt s k = 46)) := by
  unfold stB at *
  rw [bt_get s k h, rst_append, hs]
  have hb : bt s k = (s[k].toNat : Int) := by unfold bt; rw [dif_pos h]
  have he : (s[k] == 46) = decide (bt s k = 46) := by
    rw [hb]
    rcases hc : (s[k] == 46) with _ | _
    · symm
      rw [decide_eq_false_iff_not]
      intro e
      have : s[k] = 46 := UInt8.toNat_inj.1 (by show s[k].toNat = 46; omega)
      rw [this] at hc
      exact absurd hc (by decide)
    · have := eq_of_beq hc
      rw [this]; rfl
  show rst [s[k]] (v, c, p) = _
  rw [rst, rst, he]
  simp only
  by_cases hd : 48 ≤ s[k].toNat ∧ s[k].toNat ≤ 57
  · rw [if_pos hd, if_pos (show 48 ≤ bt s k ∧ bt s k ≤ 57 by omega), hb]
  · rw [if_neg hd, if_neg (show ¬ (48 ≤ bt s k ∧ bt s k ≤ 57) by omega)]
theorem stB_bound (s : ByteArray) (k : Nat) (hk : k ≤ 16) : 0 ≤ (stB s k).1 ∧ (stB s k).1 < 10000000000000000 ∧ (stB s k).2.1 ≤ 16 := by
  obtain ⟨h1, h2, h3⟩ := rst_bound (s.data.toList.take k) (0, 0, false) (Int.le_refl _)
  have hl : (s.data.toList.take k).length ≤ 16 := by rw [List.length_take]; omega
  have hp : (10 : Nat) ^ (s.data.toList.take k).length ≤ 10 ^ 16 := Nat.pow_le_pow_right (by decide) hl
  have e : (10 : Nat) ^ 16 = 10000000000000000 := by decide
  have h4 : ((10 ^ (s.data.toList.take k).length : Nat) : Int) ≤ 10000000000000000 := by omega
  have h5 : (10 : Int) ^ (s.data.toList.take k).length ≤ 10000000000000000 := by simpa using h4
  refine ⟨h1, ?_, ?_⟩
  · have : (rst (s.data.toList.take k) (0, 0, false)).1 < 1 * 10 ^ (s.data.toList.take k).length := by simpa using h2
    show (rst (s.data.toList.take k) (0, 0, false)).1 < _
    omega
  · have : (rst (s.data.toList.take k) (0, 0, false)).2.1 ≤ 0 + (s.data.toList.take k).length := h3
    show (rst (s.data.toList.take k) (0, 0, false)).2.1 ≤ _
    omega
theorem stB_all (s : ByteArray) : stB s s.size = rst s.data.toList (0, 0, false) := by
  have h9 : s.data.toList.take s.size = s.data.toList := List.take_of_length_le (Nat.le_refl _)
  unfold stB
  rw [h9]
theorem Holds.below {w w' : World} {g : Nat} {T : TypeId} {cs : Array Value} (h : Holds w g T cs) (hb : Below w.heap.size w w') : Holds w' g T cs := (hb.block g h.lt).trans h
theorem head_bt (s : ByteArray) (h : 0 < s.size) : s.data.toList.head? = some 45 ↔ bt s 0 = 45 := by
  have hl : 0 < s.data.toList.length := h
  have hb : bt s 0 = (s[0].toNat : Int) := by unfold bt; rw [dif_pos h]
  have hh : s.data.toList.head? = some s[0] := by
    rw [List.head?_eq_getElem?, List.getElem?_eq_getElem hl]; rfl
  rw [hh, hb]
  constructor
  · intro e; injection e with e; rw [e]; rfl
  · intro e
    have : s[0] = 45 := UInt8.toNat_inj.1 (by show s[0].toNat = 45; omega)
    rw [this]

set_option maxHeartbeats 16000000 in
theorem refParse_any (s : ByteArray) (w : World) :
    Calls Tryd.prog 40 #[.string s] w (ParsePost s w) := by
  by_cases h0 : s.size = 0
  · have hs : s = ⟨#[]⟩ := bytes_eq (List.eq_nil_of_length_eq_zero (show s.data.toList.length = 0 from h0))
    have hN := hide (no_short h0)
    have hc : Hid (codeOf s = 4) := hide (by unfold codeOf; rw [if_pos h0])
    subst hs
    clear h0
    go_enter Tryd.func40, Tryd.ntmps40
    go_wp2_with fail
    exact bodyPost_ret (v := .tuple #[(.agg #[.int .i64 (0), .int .i64 (0)]), .int .i64 4]) (by simp [results, Tryd.results40, go_sem]) rfl ⟨.inr ⟨hN.out, by rw [hc.out]⟩, below1 _ _⟩
  by_cases h17 : 17 < s.size
  · have hN := hide (no_long h17)
    have hc : Hid (codeOf s = 5) := hide (by unfold codeOf; rw [if_neg h0, if_pos h17])
    have hne := nonempty_of h0
    clear h0
    go_enter Tryd.func40, Tryd.ntmps40
    go_wp2_with fail
    exact bodyPost_ret (v := .tuple #[(.agg #[.int .i64 (0), .int .i64 (0)]), .int .i64 5]) (by simp [results, Tryd.results40, go_sem]) rfl ⟨.inr ⟨hN.out, by rw [hc.out]⟩, below1 _ _⟩
  · have hc : Hid (codeOf s = 13) := hide (by unfold codeOf; rw [if_neg h0, if_neg h17])
    have hne := nonempty_of h0
    have hpos : 0 < s.size := by omega
    clear h0
    go_enter Tryd.func40, Tryd.ntmps40
    go_wp2_with fail
    have gb := get_bt s
    have gb0 := bt_nonneg s
    have gb1 := bt_le s
    go_loopw [5, 6] (fun q i wr => ∃ (k : Nat) (v : Int) (c : Nat) (p : Bool), k ≤ s.size ∧ i = .int .i64 k ∧ q = .bool p ∧ Hid (stB s k = (v, c, p)) ∧ Holds wr w.heap.size 23 #[.int .i64 0, .int .i64 0] ∧ Holds wr (w.heap.size + 1) 23 #[.int .i64 v, .int .i64 (c : Int)] ∧ Below w.heap.size w wr) (fun _ i _ => s.size - (intOf i).toNat)
    case atStart => exact ⟨0, 0, 0, false, Nat.zero_le _, rfl, rfl, rfl, Holds.alloc (show Holds _ _ _ _ from heap_alloc_new w _) _, by
      have := heap_alloc_new (w.alloc (.cells #[.int .i64 0, .int .i64 0] 23)) (.cells #[.int .i64 0, .int .i64 0] 23)
      unfold Holds
      simpa using this, below2 _ _ _⟩
    case round =>
      obtain ⟨k, v, c, p, hk, rfl, rfl, hS, hR, hH, hB⟩ := hrel
      have c0 : wr.cell? ⟨w.heap.size + 1, 0, none⟩ = some (.int .i64 v) := (hH.cell 0).trans rfl
      have c1 : wr.cell? ⟨w.heap.size + 1, 1, none⟩ = some (.int .i64 (c : Int)) := (hH.cell 1).trans rfl
      have f0 := hH.free 0
      have f1 := hH.free 1
      have hsz := hH.lt
      have HH := hide hH
      have HR := hide hR
      by_cases hlt : k < s.size
      · have KB := stB_bound s k (by omega)
        rw [hS.out] at KB
        obtain ⟨v0, v1, cc⟩ := KB
        simp only at v0 v1 cc
        have hX := stB_succ s k hlt v c p hS.out
        clear hH hR
        by_cases hpt : bt s k = 46
        · have X : Hid (stB s (k + 1) = (v, c, true)) := hide (by rw [hX, if_neg (by omega)]; simp [hpt])
          have q1 : (bt s k == 46) = true := by simp [hpt]
          clear hX
          go_wp2_with fail
          go_roundw
          case rel => exact ⟨k + 1, v, c, true, by omega, by go_num, rfl, X, HR.out, HH.out, hB⟩
          case measure => simp [intOf]; omega
        have q1 : (bt s k == 46) = false := by simpa using hpt
        by_cases lo : bt s k < 48
        · have X : Hid (stB s (k + 1) = (v, c, p)) := hide (by rw [hX, if_neg (by omega)]; simp [hpt])
          clear hX hpt
          go_wp2_with fail
          go_roundw
          case rel => exact ⟨k + 1, v, c, p, by omega, by go_num, rfl, X, HR.out, HH.out, hB⟩
          case measure => simp [intOf]; omega
        by_cases hi : 57 < bt s k
        · have X : Hid (stB s (k + 1) = (v, c, p)) := hide (by rw [hX, if_neg (by omega)]; simp [hpt])
          clear hX hpt
          go_wp2_with fail
          go_roundw
          case rel => exact ⟨k + 1, v, c, p, by omega, by go_num, rfl, X, HR.out, HH.out, hB⟩
          case measure => simp [intOf]; omega
        have e1 : IntKind.i64.wrap (10 * v) = 10 * v := IntWalk.i64_in _ (by omega)
        have e2 : IntKind.u8.wrap (bt s k - 48) = bt s k - 48 := by simp [IntKind.wrap, IntKind.bits]; omega
        have e3 : IntKind.i64.wrap (bt s k - 48) = bt s k - 48 := IntWalk.i64_in _ (by omega)
        have e4 : IntKind.i64.wrap (10 * v + (bt s k - 48)) = 10 * v + (bt s k - 48) := IntWalk.i64_in _ (by omega)
        have e5 : IntKind.i64.wrap ((c : Int) + 1) = ((c + 1 : Nat) : Int) := (IntWalk.i64_in _ (by omega)).trans (by omega)
        cases p with
        | true =>
          have X : Hid (stB s (k + 1) = (10 * v + (bt s k - 48), c + 1, true)) := hide (by rw [hX, if_pos (by omega)]; simp)
          clear hX hpt
          go_wp2_with fail
          go_region
          go_wp2_with fail
          go_roundw
          case rel => exact ⟨k + 1, 10 * v + (bt s k - 48), c + 1, true, by omega, by go_num, rfl, X, (HR.out.far (by simp) _).far (by simp) _, (HH.out.put 0 _).put 1 _, (below_drewB (hB.setCell (by simp) _)).setCell (by simp) _⟩
          case measure => simp [intOf]; omega
        | false =>
          have X : Hid (stB s (k + 1) = (10 * v + (bt s k - 48), c, false)) := hide (by rw [hX, if_pos (by omega)]; simp [hpt])
          clear hX hpt
          go_wp2_with fail
          go_region
          go_wp2_with fail
          go_roundw
          case rel => exact ⟨k + 1, 10 * v + (bt s k - 48), c, false, by omega, by go_num, rfl, X, HR.out.far (by simp) _, HH.out.put 0 _, below_drewB (hB.setCell (by simp) _)⟩
          case measure => simp [intOf]; omega
      · obtain rfl : k = s.size := by omega
        have hfin := hS.out
        rw [stB_all] at hfin
        have hIv : refInt s.data.toList = if bt s 0 = 45 then -v else v := by
          unfold refInt
          rw [hfin]
          by_cases h9 : bt s 0 = 45
          · rw [if_pos h9, if_pos ((head_bt s hpos).2 h9)]
          · rw [if_neg h9, if_neg fun e => h9 ((head_bt s hpos).1 e)]
        have hSc : Hid (refScale s.data.toList = c) := hide (by unfold refScale; rw [hfin])
        obtain ⟨v0, v1⟩ : 0 ≤ v ∧ v < 100000000000000000 := by
          obtain ⟨h1, h2, _⟩ := rst_bound s.data.toList (0, 0, false) (Int.le_refl _)
          rw [hfin] at h1 h2
          refine ⟨h1, Int.lt_of_lt_of_le h2 ?_⟩
          rw [Int.zero_add, Int.one_mul]
          exact pow17 _ (by show s.size ≤ 17; omega)
        have e6 : IntKind.i64.wrap (-v) = -v := IntWalk.i64_in _ (by omega)
        clear hfin hS HH HR
        by_cases hneg : bt s 0 = 45
        · have H1 := hH.put 0 (.int .i64 (-v))
          have R1 := hR.far (show w.heap.size ≠ (⟨w.heap.size + 1, 0, none⟩ : Addr).block by simp) (.int .i64 (-v))
          have B1 := hB.setCell (show w.heap.size ≤ (⟨w.heap.size + 1, 0, none⟩ : Addr).block by simp) (.int .i64 (-v))
          have hIz : Hid (refInt s.data.toList = -v) := hide (by rw [hIv, if_pos hneg])
          have q2 : (bt s 0 == 45) = true := by simp [hneg]
          clear hIv hneg hH hR hB
          have z0 := (H1.cell 0).trans (show _ = some (Value.int .i64 (-v)) from rfl)
          have z1 := (H1.cell 1).trans (show _ = some (Value.int .i64 (c : Int)) from rfl)
          by_cases hok : okN (-v) c
          · have HO := hide hok
            have HH1 := hide H1
            have HR1 := hide R1
            clear hok H1 R1
            go_wp2_with fail
            refine (is_yes _ _ _ HO.out).mono ?_
            rintro e w2 ⟨rfl, hb2⟩
            have H2 := HH1.out.below hb2
            have R2 := HR1.out.below hb2
            have B2 := below_step B1 hb2
            clear hb2 z0 z1 B1
            have z0 := (H2.cell 0).trans (show _ = some (Value.int .i64 (-v)) from rfl)
            have z1 := (H2.cell 1).trans (show _ = some (Value.int .i64 (c : Int)) from rfl)
            have HH2 := hide H2
            have HR2 := hide R2
            clear H2 R2
            go_wp2_with fail
            refine (refText_any _ _ _ HO.out).mono ?_
            rintro e w3 ⟨t, rfl, ht, hb3⟩
            have H3 := HH2.out.below hb3
            have R3 := HR2.out.below hb3
            have B3 := below_step B2 hb3
            have HT := hide ht
            clear hb3 z0 z1 B2 ht
            have z0 := (H3.cell 0).trans (show _ = some (Value.int .i64 (-v)) from rfl)
            have z1 := (H3.cell 1).trans (show _ = some (Value.int .i64 (c : Int)) from rfl)
            have r0 := (R3.cell 0).trans (show _ = some (Value.int .i64 0) from rfl)
            have r1 := (R3.cell 1).trans (show _ = some (Value.int .i64 0) from rfl)
            have g0 := R3.free 0
            have g1 := R3.free 1
            have l3 := H3.lt
            by_cases hts : t = s
            · have hS2 : s = t := hts.symm
              clear hts
              subst hS2
              have R4 := (R3.put 0 (.int .i64 (-v))).put 1 (.int .i64 (c : Int))
              have y0 := (R4.cell 0).trans (show _ = some (Value.int .i64 (-v)) from rfl)
              have y1 := (R4.cell 1).trans (show _ = some (Value.int .i64 (c : Int)) from rfl)
              clear H3 R3 R4
              go_wp2_with fail
              exact bodyPost_ret (v := .tuple #[(.agg #[.int .i64 (-v), .int .i64 ((c : Int))]), .int .i64 0]) (by simp [results, Tryd.results40, go_sem, y0, y1]) rfl ⟨.inl ⟨_, c, HO.out, HT.out, rfl⟩, (B3.setCell (by simp) _).setCell (by simp) _⟩
            · have hN : Hid (∀ (n : Int) (k : Nat), okN n k → s.data.toList ≠ textL n k) := hide fun n' k' _ e => hts (bytes_eq (by
                obtain ⟨a, b⟩ := ref_text n' k'
                rw [HT.out, ← hIz.out, ← hSc.out, e, a, b]))
              have hq : (t.toList == s.toList) = false := by
                rw [beq_eq_false_iff_ne, ByteArray.toList_eq, ByteArray.toList_eq]
                exact fun e => hts (bytes_eq e)
              have R4 := (R3.put 0 (.int .i64 0)).put 1 (.int .i64 0)
              have y0 := (R4.cell 0).trans (show _ = some (Value.int .i64 0) from rfl)
              have y1 := (R4.cell 1).trans (show _ = some (Value.int .i64 0) from rfl)
              clear H3 R3 R4
              go_wp2_with fail
              exact bodyPost_ret (v := .tuple #[(.agg #[.int .i64 (0), .int .i64 (0)]), .int .i64 13]) (by simp [results, Tryd.results40, go_sem, y0, y1]) rfl ⟨.inr ⟨hN.out, by rw [hc.out]⟩, (B3.setCell (by simp) _).setCell (by simp) _⟩
          · have hN : Hid (∀ (n : Int) (k : Nat), okN n k → s.data.toList ≠ textL n k) := hide fun n' k' h e => hok (by
              obtain ⟨a, b⟩ := ref_text n' k'
              rw [← hIz.out, ← hSc.out, e, a, b]; exact h)
            have HO := hide hok
            have HH1 := hide H1
            have HR1 := hide R1
            clear hok H1 R1
            go_wp2_with fail
            refine (is_no _ _ _ HO.out).mono ?_
            rintro e w2 ⟨rfl, hb2⟩
            have R3 := HR1.out.below hb2
            have B3 := below_step B1 hb2
            clear hb2 z0 z1 B1
            have r0 := (R3.cell 0).trans (show _ = some (Value.int .i64 0) from rfl)
            have r1 := (R3.cell 1).trans (show _ = some (Value.int .i64 0) from rfl)
            have g0 := R3.free 0
            have g1 := R3.free 1
            have l3 := R3.lt
            have R4 := (R3.put 0 (.int .i64 0)).put 1 (.int .i64 0)
            have y0 := (R4.cell 0).trans (show _ = some (Value.int .i64 0) from rfl)
            have y1 := (R4.cell 1).trans (show _ = some (Value.int .i64 0) from rfl)
            clear R3 R4
            go_wp2_with fail
            exact bodyPost_ret (v := .tuple #[(.agg #[.int .i64 (0), .int .i64 (0)]), .int .i64 13]) (by simp [results, Tryd.results40, go_sem, y0, y1]) rfl ⟨.inr ⟨hN.out, by rw [hc.out]⟩, (B3.setCell (by simp) _).setCell (by simp) _⟩
        · have H1 := hH
          have R1 := hR
          have B1 := hB
          have hIz : Hid (refInt s.data.toList = v) := hide (by rw [hIv, if_neg hneg])
          have q2 : (bt s 0 == 45) = false := by simp [hneg]
          clear hIv hneg hH hR hB
          have z0 := (H1.cell 0).trans (show _ = some (Value.int .i64 (v)) from rfl)
          have z1 := (H1.cell 1).trans (show _ = some (Value.int .i64 (c : Int)) from rfl)
          by_cases hok : okN (v) c
          · have HO := hide hok
            have HH1 := hide H1
            have HR1 := hide R1
            clear hok H1 R1
            go_wp2_with fail
            refine (is_yes _ _ _ HO.out).mono ?_
            rintro e w2 ⟨rfl, hb2⟩
            have H2 := HH1.out.below hb2
            have R2 := HR1.out.below hb2
            have B2 := below_step B1 hb2
            clear hb2 z0 z1 B1
            have z0 := (H2.cell 0).trans (show _ = some (Value.int .i64 (v)) from rfl)
            have z1 := (H2.cell 1).trans (show _ = some (Value.int .i64 (c : Int)) from rfl)
            have HH2 := hide H2
            have HR2 := hide R2
            clear H2 R2
            go_wp2_with fail
            refine (refText_any _ _ _ HO.out).mono ?_
            rintro e w3 ⟨t, rfl, ht, hb3⟩
            have H3 := HH2.out.below hb3
            have R3 := HR2.out.below hb3
            have B3 := below_step B2 hb3
            have HT := hide ht
            clear hb3 z0 z1 B2 ht
            have z0 := (H3.cell 0).trans (show _ = some (Value.int .i64 (v)) from rfl)
            have z1 := (H3.cell 1).trans (show _ = some (Value.int .i64 (c : Int)) from rfl)
            have r0 := (R3.cell 0).trans (show _ = some (Value.int .i64 0) from rfl)
            have r1 := (R3.cell 1).trans (show _ = some (Value.int .i64 0) from rfl)
            have g0 := R3.free 0
            have g1 := R3.free 1
            have l3 := H3.lt
            by_cases hts : t = s
            · have hS2 : s = t := hts.symm
              clear hts
              subst hS2
              have R4 := (R3.put 0 (.int .i64 (v))).put 1 (.int .i64 (c : Int))
              have y0 := (R4.cell 0).trans (show _ = some (Value.int .i64 (v)) from rfl)
              have y1 := (R4.cell 1).trans (show _ = some (Value.int .i64 (c : Int)) from rfl)
              clear H3 R3 R4
              go_wp2_with fail
              exact bodyPost_ret (v := .tuple #[(.agg #[.int .i64 (v), .int .i64 ((c : Int))]), .int .i64 0]) (by simp [results, Tryd.results40, go_sem, y0, y1]) rfl ⟨.inl ⟨_, c, HO.out, HT.out, rfl⟩, (B3.setCell (by simp) _).setCell (by simp) _⟩
            · have hN : Hid (∀ (n : Int) (k : Nat), okN n k → s.data.toList ≠ textL n k) := hide fun n' k' _ e => hts (bytes_eq (by
                obtain ⟨a, b⟩ := ref_text n' k'
                rw [HT.out, ← hIz.out, ← hSc.out, e, a, b]))
              have hq : (t.toList == s.toList) = false := by
                rw [beq_eq_false_iff_ne, ByteArray.toList_eq, ByteArray.toList_eq]
                exact fun e => hts (bytes_eq e)
              have R4 := (R3.put 0 (.int .i64 0)).put 1 (.int .i64 0)
              have y0 := (R4.cell 0).trans (show _ = some (Value.int .i64 0) from rfl)
              have y1 := (R4.cell 1).trans (show _ = some (Value.int .i64 0) from rfl)
              clear H3 R3 R4
              go_wp2_with fail
              exact bodyPost_ret (v := .tuple #[(.agg #[.int .i64 (0), .int .i64 (0)]), .int .i64 13]) (by simp [results, Tryd.results40, go_sem, y0, y1]) rfl ⟨.inr ⟨hN.out, by rw [hc.out]⟩, (B3.setCell (by simp) _).setCell (by simp) _⟩
          · have hN : Hid (∀ (n : Int) (k : Nat), okN n k → s.data.toList ≠ textL n k) := hide fun n' k' h e => hok (by
              obtain ⟨a, b⟩ := ref_text n' k'
              rw [← hIz.out, ← hSc.out, e, a, b]; exact h)
            have HO := hide hok
            have HH1 := hide H1
            have HR1 := hide R1
            clear hok H1 R1
            go_wp2_with fail
            refine (is_no _ _ _ HO.out).mono ?_
            rintro e w2 ⟨rfl, hb2⟩
            have R3 := HR1.out.below hb2
            have B3 := below_step B1 hb2
            clear hb2 z0 z1 B1
            have r0 := (R3.cell 0).trans (show _ = some (Value.int .i64 0) from rfl)
            have r1 := (R3.cell 1).trans (show _ = some (Value.int .i64 0) from rfl)
            have g0 := R3.free 0
            have g1 := R3.free 1
            have l3 := R3.lt
            have R4 := (R3.put 0 (.int .i64 0)).put 1 (.int .i64 0)
            have y0 := (R4.cell 0).trans (show _ = some (Value.int .i64 0) from rfl)
            have y1 := (R4.cell 1).trans (show _ = some (Value.int .i64 0) from rfl)
            clear R3 R4
            go_wp2_with fail
            exact bodyPost_ret (v := .tuple #[(.agg #[.int .i64 (0), .int .i64 (0)]), .int .i64 13]) (by simp [results, Tryd.results40, go_sem, y0, y1]) rfl ⟨.inr ⟨hN.out, by rw [hc.out]⟩, (B3.setCell (by simp) _).setCell (by simp) _⟩
end Go.Proofs.YtgppimdakafniaaDoor
