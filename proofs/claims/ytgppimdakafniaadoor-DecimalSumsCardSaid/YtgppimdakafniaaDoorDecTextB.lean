/- What decimal.Text returns of a number that is not valid; the reference's Text. Conditions: bounds. -/
import Derived.Test.YtgppimdakafniaaDoorDecParse
import Derived.Test.YtgppimdakafniaaDoorDecLift
import Derived.Test.YtgppimdakafniaaDoorDecT
import Derived.Test.YtgppimdakafniaaDoorDecU
import Derived.Laws.BytesArg
namespace Go.Proofs.YtgppimdakafniaaDoor
open Go Go.RowKit Go.PlainAid

set_option maxHeartbeats 1000000 in
theorem text_bad (n s : Int) (w : World) (h : ¬ okN n s) :
    Calls Tryd.prog 37 #[(.agg #[.int .i64 (n), .int .i64 (s)])] w fun e w' => e = .returned (.tuple #[.string ⟨#[]⟩, .int .i64 2]) ∧ Below w.heap.size w w' := by
  have H := hide h
  clear h
  go_enter Tryd.func37, Tryd.ntmps37
  go_wp2_with fail
  refine (check_no _ _ _ H.out).mono ?_
  rintro e w1 ⟨rfl, hb1⟩
  have hB : Below w.heap.size w w1 := by repeat (first | (refine below_set ?_ ?hsz _; case hsz => (first | omega | (simp; done) | (simp; omega) | (have hs0 := hb.size; simp at hs0 ⊢; omega) | (have hs1 := hb1.size; simp at hs1 ⊢; omega) | (have hs1 := hb1.size; have hs2 := hb2.size; simp at hs1 hs2 ⊢; omega))) | exact Below.refl _ _ | refine below_alloc ?_ _ | refine below_drew ?_ | refine below_drewn ?_ _ | refine below_step ?_ hb | refine below_step ?_ hb0 | refine below_step ?_ hb1 | refine below_step ?_ hb2 | refine below_step ?_ hb3 | refine below_step ?_ hb4 | refine below_step ?_ hb5 | refine below_step ?_ hb6 | refine below_step ?_ hb7)
  clear hb1
  go_wp2_with fail
  go_ret2
  exact ⟨rfl, hB⟩

theorem cells_lit (w : World) (t : TypeId) (ns : List Int) (i : Nat) (hi : i < ns.length) : (w.alloc (.cells (ns.map (Value.int .u8)).toArray t)).cell? ⟨w.heap.size, 0 + i, none⟩ = some (.int .u8 (ns.getD i 0)) := by
  rw [cell_of_row _ _ _ _ _ _ (heap_alloc_new w _), Nat.zero_add]
  simp [List.getD, hi]
theorem chr_of (d : Int) (h0 : 0 ≤ d) (h1 : d ≤ 9) : (strOfNums [48 + d]).data.toList = [chr d] := by
  rw [strOfNums_data]
  show [UInt8.ofNat (48 + d).toNat] = [UInt8.ofNat (48 + d.toNat)]
  rw [show (48 + d).toNat = 48 + d.toNat by omega]

set_option maxHeartbeats 8000000 in
theorem refText_any (n : Int) (s : Nat) (w : World) (h : okN n s) :
    Calls Tryd.prog 39 #[(.agg #[.int .i64 (n), .int .i64 (s)])] w fun e w' => ∃ t : ByteArray, e = .returned (.string t) ∧ t.data.toList = textL n s ∧ Below w.heap.size w w' := by
  have g1 := h.1
  have g2 := h.2.1
  have g4 := h.2.2.2
  have LM := hide (digs_nd n.natAbs s)
  have L15 : (digs n.natAbs).length ≤ 15 := by
    refine digs_len ?_
    have e : (10 : Nat) ^ 15 = 1000000000000000 := by decide
    omega
  have RG := hide (digs_range n.natAbs)
  have CO : Hid (Calls Tryd.prog 34 #[.int .i64 n, .int .i64 0] (w.alloc (.cells #[.int .i64 n, .int .i64 s] 23)) (NumIs n (w.alloc (.cells #[.int .i64 n, .int .i64 s] 23)))) := hide (by
    have := of_any n 0 (w.alloc (.cells #[.int .i64 n, .int .i64 s] 23)) g1 g2 (by decide)
    rwa [show n * ((10 ^ 0 : Nat) : Int) = n by simp] at this)
  clear h
  obtain ⟨l, hl⟩ : ∃ l, l = digs n.natAbs := ⟨_, rfl⟩
  have HL := hide hl
  go_enter Tryd.func39, Tryd.ntmps39
  go_wp2_with fail
  refine CO.out.mono ?_
  rintro e w1 ⟨A, c, rfl, lc, lc', hrow, _, hb1⟩
  rw [← hl] at lc hrow L15 RG LM ⊢
  clear hl lc lc' CO
  have k1 : w1.cell? ⟨w.heap.size, 1, none⟩ = some (.int .i64 s) := (hb1.cell (p := ⟨w.heap.size, 1, none⟩) (by simp)).trans (one1 _ _ _ _)
  have k0 : w1.cell? ⟨w.heap.size, 0, none⟩ = some (.int .i64 n) := (hb1.cell (p := ⟨w.heap.size, 0, none⟩) (by simp)).trans (one0 _ _ _ _)
  have hB1 : Below w.heap.size w w1 := by repeat (first | (refine below_set ?_ ?hsz _; case hsz => (first | omega | (simp; done) | (simp; omega) | (have hs0 := hb.size; simp at hs0 ⊢; omega) | (have hs1 := hb1.size; simp at hs1 ⊢; omega) | (have hs1 := hb1.size; have hs2 := hb2.size; simp at hs1 hs2 ⊢; omega))) | exact Below.refl _ _ | refine below_alloc ?_ _ | refine below_drew ?_ | refine below_drewn ?_ _ | refine below_step ?_ hb | refine below_step ?_ hb0 | refine below_step ?_ hb1 | refine below_step ?_ hb2 | refine below_step ?_ hb3 | refine below_step ?_ hb4 | refine below_step ?_ hb5 | refine below_step ?_ hb6 | refine below_step ?_ hb7)
  have z1 : w.heap.size < w1.heap.size := World.block_lt_of_cell? _ _ k1
  have ROW := hide hrow
  clear hrow hb1
  go_wp2_with fail
  obtain ⟨m, hm⟩ : ∃ m : Nat, m = max l.length (s + 1) := ⟨_, rfl⟩
  have hm15 : m ≤ 15 := by omega
  have hmi : ((m : Nat) : Int) = max (l.length : Int) ((s : Int) + 1) := by omega
  have HM := hide hm
  have HMI := hide hmi
  clear hm hmi
  go_loopw [4, 5] (fun str i wr => ∃ (k : Nat) (t : ByteArray), k ≤ m ∧ i = .int .i64 k ∧ str = .string t ∧ t.size ≤ 2 * k ∧ Hid (t.data.toList = back n.natAbs s k) ∧ Below (w1.alloc (.cells #[.int .i64 (sgn n), .slice A l.length c] 42)).heap.size (w1.alloc (.cells #[.int .i64 (sgn n), .slice A l.length c] 42)) wr) (fun _ i _ => m - (intOf i).toNat)
  case atStart => exact ⟨0, ⟨#[]⟩, Nat.zero_le _, rfl, rfl, Nat.le_refl _, rfl, Below.refl _ _⟩
  case round =>
    obtain ⟨k, t, hk, rfl, rfl, hts, hT, hbw⟩ := hrel
    have ht30 : t.size ≤ 30 := by omega
    have zs : ∀ x : Int, (strOfNums [x]).size = 1 := fun x => strOfNums_size [x]
    have k1r := lift1 hbw k1
    have k0r := lift1 hbw k0
    have c0r := new0 hbw
    have c1r := new1 hbw
    have hB : Below w.heap.size w wr := below_new hB1 hbw
    have hROW : Hid (Row wr A l) := hide ((ROW.out.below (Below.alloc (Below.refl _ _) (Nat.le_refl _) _)).below hbw)
    by_cases hlt : k < m
    · have q0 : decide ((k : Int) < max (l.length : Int) ((s : Int) + 1)) = true := by rw [← HMI.out]; simpa using hlt
      obtain ⟨d, hd⟩ : ∃ d, d = dg l k := ⟨_, rfl⟩
      obtain ⟨d0, d1⟩ : 0 ≤ d ∧ d ≤ 9 := by rw [hd]; exact dg_range RG.out k
      have CD : Hid (Calls Tryd.prog 56 #[.agg #[.int .i64 (sgn n), .slice A l.length c], .int .i64 (k : Int)] wr fun e w' => e = .returned (.int .i64 d) ∧ Below wr.heap.size wr w') := hide (by
        have := digit_any (sgn n) A c l k wr hROW.out (by omega) (by omega) (by omega)
        rwa [Int.toNat_natCast, ← hd] at this)
      have HD : Hid (chr (dg (digs n.natAbs) k) = chr d) := hide (by rw [hd, HL.out])
      clear hd
      by_cases hks : k = s
      · by_cases hk0 : 0 < k
        · have q1 : ((k : Int) == (s : Int)) = true := by simp [hks]
          have hb : Hid (back n.natAbs s (k + 1) = chr d :: 46 :: back n.natAbs s k) := hide (by rw [back, if_pos ⟨hks, hk0⟩, HD.out])
          clear hks
          go_wp2_with fail
          refine CD.out.mono ?_
          rintro e w2 ⟨rfl, hb2⟩
          have cv := fun (a : Int) => run_convert_bytes_arg (P := Tryd.prog) (w2.alloc (.cells #[.int .u8 a] 5)) 50 5 Tryd.underlying50 Tryd.underlying5 w2.heap.size 0 1 1 [a] rfl (fun i hi => cells_lit w2 5 [a] i hi) 9 Tryd.underlying9
          replace hbw := below_step hbw hb2
          clear hb2 hB k0r k1r c0r c1r hROW
          go_wp2_with fail
          go_roundw
          case rel => exact ⟨k + 1, _, by omega, by go_num, rfl, by simp [zs, show ({ data := #[46] } : ByteArray).size = 1 from rfl]; omega, hide (by rw [hb.out, ← hT.out]; simp [chr_of d d0 d1]), hbw.alloc hbw.size _⟩
          case measure => simp [intOf]; omega
        · have q1 : ((k : Int) == (s : Int)) = true := by simp [hks]
          have hb : Hid (back n.natAbs s (k + 1) = chr d :: back n.natAbs s k) := hide (by rw [back, if_neg (by omega), HD.out])
          clear hks
          go_wp2_with fail
          refine CD.out.mono ?_
          rintro e w2 ⟨rfl, hb2⟩
          have cv := fun (a : Int) => run_convert_bytes_arg (P := Tryd.prog) (w2.alloc (.cells #[.int .u8 a] 5)) 50 5 Tryd.underlying50 Tryd.underlying5 w2.heap.size 0 1 1 [a] rfl (fun i hi => cells_lit w2 5 [a] i hi) 9 Tryd.underlying9
          replace hbw := below_step hbw hb2
          clear hb2 hB k0r k1r c0r c1r hROW
          go_wp2_with fail
          go_roundw
          case rel => exact ⟨k + 1, _, by omega, by go_num, rfl, by simp [zs]; omega, hide (by rw [hb.out, ← hT.out]; simp [chr_of d d0 d1]), hbw.alloc hbw.size _⟩
          case measure => simp [intOf]; omega
      · have q1 : ((k : Int) == (s : Int)) = false := by simp; omega
        have hb : Hid (back n.natAbs s (k + 1) = chr d :: back n.natAbs s k) := hide (by rw [back, if_neg (by omega), HD.out])
        clear hks
        go_wp2_with fail
        refine CD.out.mono ?_
        rintro e w2 ⟨rfl, hb2⟩
        have cv := fun (a : Int) => run_convert_bytes_arg (P := Tryd.prog) (w2.alloc (.cells #[.int .u8 a] 5)) 50 5 Tryd.underlying50 Tryd.underlying5 w2.heap.size 0 1 1 [a] rfl (fun i hi => cells_lit w2 5 [a] i hi) 9 Tryd.underlying9
        replace hbw := below_step hbw hb2
        clear hb2 hB k0r k1r c0r c1r hROW
        go_wp2_with fail
        go_roundw
        case rel => exact ⟨k + 1, _, by omega, by go_num, rfl, by simp [zs]; omega, hide (by rw [hb.out, ← hT.out]; simp [chr_of d d0 d1]), hbw.alloc hbw.size _⟩
        case measure => simp [intOf]; omega
    · obtain rfl : k = m := by omega
      have q0 : decide ((k : Int) < max (l.length : Int) ((s : Int) + 1)) = false := by rw [← HMI.out]; simp
      have hfin := back_text n s
      rw [← LM.out, ← HM.out, ← hT.out] at hfin
      have HF := hide hfin
      clear hfin
      by_cases hn : n < 0
      · go_wp2_with fail
        go_ret
        exact ⟨_, rfl, by rw [← HF.out, if_pos hn]; simp, hB⟩
      · have q2 : decide (n < 0) = false := by simpa using hn
        go_wp2_with fail
        go_ret
        exact ⟨_, rfl, by rw [← HF.out, if_neg (by omega)]; simp, hB⟩
end Go.Proofs.YtgppimdakafniaaDoor
