/- What Flat returns. No condition. -/
import Derived.Test.YtdkkblkbonjjgaaDoorFfTypA
namespace Go.Proofs.YtdkkblkbonjjgaaDoor.Ff
open Go Go.RowKit Go.PlainAid
def kOk (f : Tf) : Prop := 1 ≤ f.t.k ∧ f.t.k ≤ 7
instance (f : Tf) : Decidable (kOk f) := by unfold kOk; infer_instance
def allK (l : List Tf) : Prop := ∀ i (h : i < l.length), kOk l[i]
instance (l : List Tf) : Decidable (allK l) := by unfold allK; infer_instance
theorem flat1_any (f : Tf) (w : World) : Calls Tryd.prog 13 #[.agg f.arr] w fun e w' => e = .returned (.bool (!decide (kOk f))) ∧ Below w.heap.size w w' := by
  obtain ⟨nu, nm, ne, ⟨k, mn, mx, sc, A, la, ca, B, lb, cb, C, lc, cc⟩, D, ld, cd⟩ := f
  have hk : k < 1 ∨ (¬ k < 1 ∧ 7 < k) ∨ (¬ k < 1 ∧ ¬ 7 < k) := by omega
  show Calls Tryd.prog 13 #[.agg #[.int .i64 nu, .string nm, .int .i64 ne, .int .i64 k, .int .i64 mn, .int .i64 mx, .int .i64 sc, .slice A la ca, .slice B lb cb, .slice C lc cc, .slice D ld cd]] w _
  rcases hk with h1 | ⟨h1, h2⟩ | ⟨h1, h2⟩
  · have hd : decide (kOk ⟨nu, nm, ne, ⟨k, mn, mx, sc, A, la, ca, B, lb, cb, C, lc, cc⟩, D, ld, cd⟩) = false := decide_eq_false fun h => by have := h.1; dsimp only at this; omega
    rw [hd]
    clear hd
    go_enter Tryd.func13, Tryd.ntmps13
    go_wp2_with fail
    go_returns
    exact ⟨rfl, new1 _ _⟩
  · have hd : decide (kOk ⟨nu, nm, ne, ⟨k, mn, mx, sc, A, la, ca, B, lb, cb, C, lc, cc⟩, D, ld, cd⟩) = false := decide_eq_false fun h => by have := h.2; dsimp only at this; omega
    rw [hd]
    clear hd
    go_enter Tryd.func13, Tryd.ntmps13
    go_wp2_with fail
    go_returns
    exact ⟨rfl, new1 _ _⟩
  · have hd : decide (kOk ⟨nu, nm, ne, ⟨k, mn, mx, sc, A, la, ca, B, lb, cb, C, lc, cc⟩, D, ld, cd⟩) = true := decide_eq_true ⟨by dsimp only; omega, by dsimp only; omega⟩
    rw [hd]
    clear hd
    go_enter Tryd.func13, Tryd.ntmps13
    go_wp2_with fail
    go_returns
    exact ⟨rfl, new1 _ _⟩
theorem row_cells {n₀ : Nat} {w : World} {C : Option Addr} {l : List Tf} (h : TRow n₀ w C l) {k : Nat} (hk : k < l.length) : ∃ g, C = some ⟨g, 0, none⟩ ∧ g < w.heap.size ∧ ∀ w', Below w.heap.size w w' → w'.cell? ⟨g, k * 11, none⟩ = some (.int .i64 l[k].nu) ∧ w'.cell? ⟨g, k * 11 + 1, none⟩ = some (.string l[k].nm) ∧ w'.cell? ⟨g, k * 11 + 2, none⟩ = some (.int .i64 l[k].ne) ∧ w'.cell? ⟨g, k * 11 + 3, none⟩ = some (.int .i64 l[k].t.k) ∧ w'.cell? ⟨g, k * 11 + 4, none⟩ = some (.int .i64 l[k].t.mn) ∧ w'.cell? ⟨g, k * 11 + 5, none⟩ = some (.int .i64 l[k].t.mx) ∧ w'.cell? ⟨g, k * 11 + 6, none⟩ = some (.int .i64 l[k].t.sc) ∧
    w'.cell? ⟨g, k * 11 + 7, none⟩ = some (.slice l[k].t.A l[k].t.la l[k].t.ca) ∧ w'.cell? ⟨g, k * 11 + 8, none⟩ = some (.slice l[k].t.B l[k].t.lb l[k].t.cb) ∧ w'.cell? ⟨g, k * 11 + 9, none⟩ = some (.slice l[k].t.C l[k].t.lc l[k].t.cc) ∧ w'.cell? ⟨g, k * 11 + 10, none⟩ = some (.slice l[k].D l[k].ld l[k].cd) := by
  obtain ⟨g, e, _, hg, hc⟩ := h (by omega)
  refine ⟨g, e, hg, fun w' hb => ?_⟩
  have c := fun c (h : c < 11) => (hb.cell (p := ⟨g, k * 11 + c, none⟩) hg).trans (hc k hk c h)
  exact ⟨c 0 (by omega), c 1 (by omega), c 2 (by omega), c 3 (by omega), c 4 (by omega), c 5 (by omega), c 6 (by omega), c 7 (by omega), c 8 (by omega), c 9 (by omega), c 10 (by omega)⟩
set_option maxRecDepth 100000 in
set_option maxHeartbeats 4000000 in
theorem indexFunc_any (C : Option Addr) (l : List Tf) (c : Nat) (w : World) (hr : TRow 0 w C l) (hl : l.length ≤ 6) :
    Calls Tryd.prog 19 #[.slice C l.length c, .func (.func 13) #[] #[]] w fun e w' => (∃ r : Int, e = .returned (.int .i64 r) ∧ decide (0 ≤ r) = !decide (allK l)) ∧ Below w.heap.size w w' := by
  have HR := hide hr
  clear hr
  go_enter Tryd.func19, Tryd.ntmps19
  go_wp2_with fail
  go_loopw [8] (fun x wr => ∃ k : Nat, k ≤ l.length ∧ x = .int .i64 k ∧ (∀ j (h : j < l.length), j < k → kOk l[j]) ∧ Below w.heap.size w wr) (fun x _ => l.length - (intOf x).toNat)
  case atStart => exact ⟨0, Nat.zero_le _, rfl, fun j _ hj => by omega, Below.refl _ _⟩
  case round =>
    obtain ⟨k, hk, rfl, hall, hb⟩ := hrel
    by_cases hlt : k < l.length
    · obtain ⟨g, rfl, hg, hc⟩ := row_cells HR.out hlt
      obtain ⟨d0, d1, d2, d3, d4, d5, d6, d7, d8, d9, d10⟩ := hc _ hb
      have hi0 : (0 : Int) ≤ (k : Int) := Int.natCast_nonneg _
      have hi1 : (k : Int) < (l.length : Int) := by omega
      have HALL := hide hall
      have HB := hide hb
      obtain ⟨f, hf⟩ : ∃ f, l[k] = f := ⟨_, rfl⟩
      have HF := hide hf
      rw [hf] at d0 d1 d2 d3 d4 d5 d6 d7 d8 d9 d10
      clear hc hall hb hf
      go_wp2_with fail
      refine (flat1_any f _).mono ?_
      rintro e w1 ⟨rfl, b1⟩
      have hb1 : Below w.heap.size w w1 := below_step HB.out b1
      clear b1 d0 d1 d2 d3 d4 d5 d6 d7 d8 d9 d10
      by_cases ho : kOk f
      · have ho' : decide (kOk f) = true := decide_eq_true ho
        have NX : Hid (∀ j (h : j < l.length), j < k + 1 → kOk l[j]) := hide fun j h hj => by
          by_cases hjk : j = k
          · subst hjk; rw [HF.out]; exact ho
          · exact HALL.out j h (by omega)
        clear ho
        go_wp2_with fail
        go_roundw
        case rel => exact ⟨k + 1, by omega, by go_num, NX.out, hb1⟩
        case measure => simp [intOf]; omega
      · have ho' : decide (kOk f) = false := decide_eq_false ho
        have NX : Hid (decide (allK l) = false) := hide (decide_eq_false fun h => ho (HF.out ▸ h k hlt))
        clear ho
        go_wp2_with fail
        go_returns
        exact ⟨⟨_, rfl, by rw [NX.out]; simp⟩, hb1⟩
    · obtain rfl : k = l.length := by omega
      have NX : Hid (decide (allK l) = true) := hide (decide_eq_true fun i h => hall i h h)
      clear hall
      go_wp2_with fail
      go_returns
      exact ⟨⟨_, rfl, by rw [NX.out]; simp⟩, hb⟩
theorem contains_any (C : Option Addr) (l : List Tf) (c : Nat) (w : World) (hr : TRow 0 w C l) (hl : l.length ≤ 6) :
    Calls Tryd.prog 12 #[.slice C l.length c, .func (.func 13) #[] #[]] w fun e w' => e = .returned (.bool (!decide (allK l))) ∧ Below w.heap.size w w' := by
  go_enter Tryd.func12, Tryd.ntmps12
  go_wp2_with fail
  refine (indexFunc_any C l c _ hr hl).mono ?_
  rintro e w1 ⟨⟨r, rfl, hr⟩, b1⟩
  have HR := hide hr
  clear hr
  go_wp2_with fail
  go_returns
  refine ⟨?_, b1⟩
  rw [← HR.out]
  rfl
/-- what is flat -/
def isFlat (k : Int) (l : List Tf) : Prop := k = 9 ∧ 0 < l.length ∧ allK l
instance (k : Int) (l : List Tf) : Decidable (isFlat k l) := by unfold isFlat; infer_instance
theorem flat_any (k mn mx sc : Int) (A : Option Addr) (la ca : Nat) (B : Option Addr) (lb cb : Nat) (C : Option Addr) (l : List Tf) (cc : Nat) (w : World) (hr : TRow 0 w C l) (hl : l.length ≤ 6) :
    Calls Tryd.prog 6 #[.agg #[.int .i64 k, .int .i64 mn, .int .i64 mx, .int .i64 sc, .slice A la ca, .slice B lb cb, .slice C l.length cc]] w fun e w' => e = .returned (.bool (decide (isFlat k l))) ∧ Below w.heap.size w w' := by
  have HR := hide hr
  clear hr
  by_cases h9 : k = 9
  · subst h9
    by_cases h0 : 0 < l.length
    · have h0' : (0 : Int) < (l.length : Int) := by omega
      have hd : decide (isFlat 9 l) = decide (allK l) := by simp [isFlat, h0]
      rw [hd]
      have CO := hide (fun w (hr : TRow 0 w C l) => contains_any C l cc w hr hl)
      obtain ⟨b, hb⟩ : ∃ b, decide (allK l) = b := ⟨_, rfl⟩
      rw [hb] at CO ⊢
      clear hd hb h0
      cases b
      · go_enter Tryd.func6, Tryd.ntmps6
        go_wp2_with fail
        refine (CO.out _ (HR.out.below (new1 _ _))).mono ?_
        rintro e w1 ⟨rfl, b1⟩
        go_wp2_with fail
        go_returns
        exact ⟨rfl, below_step (new1 _ _) b1⟩
      · go_enter Tryd.func6, Tryd.ntmps6
        go_wp2_with fail
        refine (CO.out _ (HR.out.below (new1 _ _))).mono ?_
        rintro e w1 ⟨rfl, b1⟩
        go_wp2_with fail
        go_returns
        exact ⟨rfl, below_step (new1 _ _) b1⟩
    · have h0' : ¬ (0 : Int) < (l.length : Int) := by omega
      have hd : decide (isFlat 9 l) = false := decide_eq_false fun h => h0 h.2.1
      rw [hd]
      clear hd h0
      go_enter Tryd.func6, Tryd.ntmps6
      go_wp2_with fail
      go_returns
      exact ⟨rfl, new1 _ _⟩
  · have h9' : (k == 9) = false := by simpa using h9
    have hd : decide (isFlat k l) = false := decide_eq_false fun h => h9 h.1
    rw [hd]
    clear hd h9
    go_enter Tryd.func6, Tryd.ntmps6
    go_wp2_with fail
    go_returns
    exact ⟨rfl, new1 _ _⟩
end Go.Proofs.YtdkkblkbonjjgaaDoor.Ff
