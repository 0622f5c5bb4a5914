/- The reference's Is, Order, At and Compare. Condition: bounds. -/
import Derived.Test.YtgppimdakafniaaDoorDecT
import Derived.Test.YtgppimdakafniaaDoorDecD
namespace Go.Proofs.YtgppimdakafniaaDoor
open Go Go.RowKit Go.PlainAid

set_option maxHeartbeats 1000000 in
theorem is_yes (n s : Int) (w : World) (h : okN n s) : Calls Tryd.prog 18 #[(.agg #[.int .i64 (n), .int .i64 (s)])] w fun e w' => e = .returned (.bool true) ∧ Below w.heap.size w w' := by
  obtain ⟨h1, h2, h3, h4⟩ := h
  have q : decide (s ≤ 12) = true := by simpa using h4
  go_enter Tryd.func18, Tryd.ntmps18
  go_wp2
  go_ret
  exact ⟨rfl, below1 _ _⟩
set_option maxHeartbeats 1000000 in
theorem is_no (n s : Int) (w : World) (h : ¬ okN n s) : Calls Tryd.prog 18 #[(.agg #[.int .i64 (n), .int .i64 (s)])] w fun e w' => e = .returned (.bool false) ∧ Below w.heap.size w w' := by
  by_cases h1 : -999999999999999 ≤ n
  · by_cases h2 : n ≤ 999999999999999
    · by_cases h3 : 0 ≤ s
      · have h4 : ¬ s ≤ 12 := fun e => h ⟨h1, h2, h3, e⟩
        have q : decide (s ≤ 12) = false := by simpa using h4
        clear h h4
        go_enter Tryd.func18, Tryd.ntmps18
        go_wp2
        go_ret
        exact ⟨rfl, below1 _ _⟩
      · have q : decide (0 ≤ s) = false := by simpa using h3
        clear h h3
        go_enter Tryd.func18, Tryd.ntmps18
        go_wp2
        go_ret
        exact ⟨rfl, below1 _ _⟩
    · have q : decide (n ≤ 999999999999999) = false := by simpa using h2
      clear h h2
      go_enter Tryd.func18, Tryd.ntmps18
      go_wp2
      go_ret
      exact ⟨rfl, below1 _ _⟩
  · have q : decide (-999999999999999 ≤ n) = false := by simpa using h1
    clear h h1
    go_enter Tryd.func18, Tryd.ntmps18
    go_wp2
    go_ret
    exact ⟨rfl, below1 _ _⟩

theorem sgn_cases (x : Int) : (x < 0 ∧ sgn x = -1) ∨ (x = 0 ∧ sgn x = 0) ∨ (0 < x ∧ sgn x = 1) := by
  rcases Int.lt_trichotomy x 0 with h | h | h
  · exact .inl ⟨h, sgn_of_neg h⟩
  · exact .inr (.inl ⟨h, sgn_eq_zero.2 h⟩)
  · exact .inr (.inr ⟨h, sgn_pos h⟩)
theorem sgn_same {x y : Int} (h : sgn x = sgn y) : sgn x * sgn ((x.natAbs : Int) - (y.natAbs : Int)) = sgn (x - y) := by
  rcases sgn_cases x with ⟨hx, ex⟩ | ⟨hx, ex⟩ | ⟨hx, ex⟩ <;> rcases sgn_cases y with ⟨hy, ey⟩ | ⟨hy, ey⟩ | ⟨hy, ey⟩ <;> rw [ex, ey] at h
  all_goals first
    | (exfalso; revert h; decide)
    | skip
  · rw [ex, show (x.natAbs : Int) - (y.natAbs : Int) = -(x - y) by omega, sgn_neg, Int.neg_mul_neg, Int.one_mul]
  · rw [ex, hx, hy]; rfl
  · rw [ex, show (x.natAbs : Int) - (y.natAbs : Int) = x - y by omega, Int.one_mul]
theorem sgn_less {x y : Int} (h : sgn x < sgn y) : sgn (x - y) = -1 := by
  rcases sgn_cases x with ⟨hx, ex⟩ | ⟨hx, ex⟩ | ⟨hx, ex⟩ <;> rcases sgn_cases y with ⟨hy, ey⟩ | ⟨hy, ey⟩ | ⟨hy, ey⟩ <;> rw [ex, ey] at h
  all_goals first
    | (exfalso; revert h; decide)
    | exact sgn_of_neg (by omega)

theorem top0 (w : World) (o : Obj) (a b : Value) (T : TypeId) : ((w.alloc o).alloc (.cells #[a, b] T)).cell? ⟨w.heap.size + 1, 0, none⟩ = some a := by simp [go_sem]
theorem top1 (w : World) (o : Obj) (a b : Value) (T : TypeId) : ((w.alloc o).alloc (.cells #[a, b] T)).cell? ⟨w.heap.size + 1, 1, none⟩ = some b := by simp [go_sem]
set_option maxHeartbeats 4000000 in
theorem order_any (x y : Int) (A B : Option Addr) (ca cb : Nat) (w : World) (ha : Row w A (digs x.natAbs)) (hb : Row w B (digs y.natAbs)) (la : (digs x.natAbs).length ≤ 1000000) (lb : (digs y.natAbs).length ≤ 1000000) :
    Calls Tryd.prog 33 #[.agg #[.int .i64 (sgn x), .slice A (digs x.natAbs).length ca], .agg #[.int .i64 (sgn y), .slice B (digs y.natAbs).length cb]] w fun e w' => e = .returned (.int .i64 (sgn (x - y))) ∧ Below w.heap.size w w' := by
  obtain ⟨s, hs⟩ : ∃ s, s = sgn x := ⟨_, rfl⟩
  obtain ⟨t, ht⟩ : ∃ t, t = sgn y := ⟨_, rfl⟩
  have HS := hide hs
  have HT := hide ht
  have RA := hide ha
  have RB := hide hb
  have LA := hide la
  have LB := hide lb
  rcases Int.lt_trichotomy s t with h | h | h
  · have E : Hid (sgn (x - y) = -1) := sgn_less (by omega)
    rw [← hs, ← ht]
    clear hs ht ha hb la lb
    generalize (digs x.natAbs).length = nx at *
    generalize (digs y.natAbs).length = ny at *
    go_enter Tryd.func33, Tryd.ntmps33
    go_wp2_with fail
    go_ret
    exact ⟨ret_int E.out.symm, below2 _ _ _⟩
  · have E : Hid (sgn x * sgn ((x.natAbs : Int) - (y.natAbs : Int)) = sgn (x - y)) := sgn_same (by omega)
    subst h
    have CA : Hid (∀ W, Row W A (digs x.natAbs) → Row W B (digs y.natAbs) → Calls Tryd.prog 55 #[.agg #[.int .i64 s, .slice A (digs x.natAbs).length ca], .agg #[.int .i64 s, .slice B (digs y.natAbs).length cb]] W fun e w' => e = .returned (.int .i64 (sgn ((x.natAbs : Int) - (y.natAbs : Int)))) ∧ Below W.heap.size W w') := hide fun W h1 h2 => by
      have := above_any s s A B ca cb _ _ W h1 h2 la lb (digs_range _) (digs_range _)
      rwa [digs_V, digs_V] at this
    have hr := sgn_range x
    rw [← hs] at E hr
    have hs3 : s = -1 ∨ s = 0 ∨ s = 1 := by omega
    have hk := sgn_range ((x.natAbs : Int) - (y.natAbs : Int))
    generalize sgn ((x.natAbs : Int) - (y.natAbs : Int)) = k at *
    rw [← hs, ← ht]
    clear hs ht ha hb la lb HS HT hr
    obtain ⟨k1, k2⟩ := hk
    generalize (digs x.natAbs).length = nx at *
    generalize (digs y.natAbs).length = ny at *
    rcases hs3 with rfl | rfl | rfl
    · go_enter Tryd.func33, Tryd.ntmps33
      go_wp2_with fail
      go_region_held3 (fun w' => w'.cell? ⟨w.heap.size, 0, none⟩ = some (.int .i64 (-1)) ∧ w'.cell? ⟨w.heap.size, 1, none⟩ = some (.slice A nx ca) ∧ w'.cell? ⟨w.heap.size + 1, 0, none⟩ = some (.int .i64 (-1)) ∧ w'.cell? ⟨w.heap.size + 1, 1, none⟩ = some (.slice B ny cb) ∧ Below ((w.alloc (.cells #[.int .i64 (-1), .slice A nx ca] 42)).alloc (.cells #[.int .i64 (-1), .slice B ny cb] 42)).heap.size ((w.alloc (.cells #[.int .i64 (-1), .slice A nx ca] 42)).alloc (.cells #[.int .i64 (-1), .slice B ny cb] 42)) w')
        ((refine keep4 ?_ (lt2a _ _ _) (two0 _ _ _ _ _) (lt2a _ _ _) (two1 _ _ _ _ _) (lt2b _ _ _) (top0 _ _ _ _ _) (lt2b _ _ _) (top1 _ _ _ _ _); repeat (first | (refine below_set ?_ ?hsz _; case hsz => (first | omega | (simp; done) | (simp; omega) | (have hs0 := hb.size; simp at hs0 ⊢; omega) | (have hs1 := hb1.size; simp at hs1 ⊢; omega) | (have hs1 := hb1.size; have hs2 := hb2.size; simp at hs1 hs2 ⊢; omega))) | exact Below.refl _ _ | refine below_alloc ?_ _ | refine below_drew ?_ | refine below_drewn ?_ _ | refine below_step ?_ hb | refine below_step ?_ hb0 | refine below_step ?_ hb1 | refine below_step ?_ hb2 | refine below_step ?_ hb3 | refine below_step ?_ hb4 | refine below_step ?_ hb5 | refine below_step ?_ hb6 | refine below_step ?_ hb7)))
        (first | (go_at_call 55; (with_reducible refine (CA.out _ ?_ ?_).mono ?_); (exact RA.out.below (by repeat (first | (refine below_set ?_ ?hsz _; case hsz => (first | omega | (simp; done) | (simp; omega) | (have hs0 := hb.size; simp at hs0 ⊢; omega) | (have hs1 := hb1.size; simp at hs1 ⊢; omega) | (have hs1 := hb1.size; have hs2 := hb2.size; simp at hs1 hs2 ⊢; omega))) | exact Below.refl _ _ | refine below_alloc ?_ _ | refine below_drew ?_ | refine below_drewn ?_ _ | refine below_step ?_ hb | refine below_step ?_ hb0 | refine below_step ?_ hb1 | refine below_step ?_ hb2 | refine below_step ?_ hb3 | refine below_step ?_ hb4 | refine below_step ?_ hb5 | refine below_step ?_ hb6 | refine below_step ?_ hb7))); (exact RB.out.below (by repeat (first | (refine below_set ?_ ?hsz _; case hsz => (first | omega | (simp; done) | (simp; omega) | (have hs0 := hb.size; simp at hs0 ⊢; omega) | (have hs1 := hb1.size; simp at hs1 ⊢; omega) | (have hs1 := hb1.size; have hs2 := hb2.size; simp at hs1 hs2 ⊢; omega))) | exact Below.refl _ _ | refine below_alloc ?_ _ | refine below_drew ?_ | refine below_drewn ?_ _ | refine below_step ?_ hb | refine below_step ?_ hb0 | refine below_step ?_ hb1 | refine below_step ?_ hb2 | refine below_step ?_ hb3 | refine below_step ?_ hb4 | refine below_step ?_ hb5 | refine below_step ?_ hb6 | refine below_step ?_ hb7))); rintro e w1 ⟨rfl, hb1⟩))
      all_goals (
        go_wp2_with fail
        go_ret
        refine ⟨ret_int ?_, by repeat (first | (refine below_set ?_ ?hsz _; case hsz => (first | omega | (simp; done) | (simp; omega) | (have hs0 := hb.size; simp at hs0 ⊢; omega) | (have hs1 := hb1.size; simp at hs1 ⊢; omega) | (have hs1 := hb1.size; have hs2 := hb2.size; simp at hs1 hs2 ⊢; omega))) | exact Below.refl _ _ | refine below_alloc ?_ _ | refine below_drew ?_ | refine below_drewn ?_ _ | refine below_step ?_ hb | refine below_step ?_ hb0 | refine below_step ?_ hb1 | refine below_step ?_ hb2 | refine below_step ?_ hb3 | refine below_step ?_ hb4 | refine below_step ?_ hb5 | refine below_step ?_ hb6 | refine below_step ?_ hb7)⟩
        first
          | (rw [← E.out]; omega)
          | (rw [IntWalk.i64_in _ (by omega), ← E.out]; omega))
    · go_enter Tryd.func33, Tryd.ntmps33
      go_wp2_with fail
      go_region_held3 (fun w' => w'.cell? ⟨w.heap.size, 0, none⟩ = some (.int .i64 0) ∧ w'.cell? ⟨w.heap.size, 1, none⟩ = some (.slice A nx ca) ∧ w'.cell? ⟨w.heap.size + 1, 0, none⟩ = some (.int .i64 0) ∧ w'.cell? ⟨w.heap.size + 1, 1, none⟩ = some (.slice B ny cb) ∧ Below ((w.alloc (.cells #[.int .i64 0, .slice A nx ca] 42)).alloc (.cells #[.int .i64 0, .slice B ny cb] 42)).heap.size ((w.alloc (.cells #[.int .i64 0, .slice A nx ca] 42)).alloc (.cells #[.int .i64 0, .slice B ny cb] 42)) w')
        ((refine keep4 ?_ (lt2a _ _ _) (two0 _ _ _ _ _) (lt2a _ _ _) (two1 _ _ _ _ _) (lt2b _ _ _) (top0 _ _ _ _ _) (lt2b _ _ _) (top1 _ _ _ _ _); repeat (first | (refine below_set ?_ ?hsz _; case hsz => (first | omega | (simp; done) | (simp; omega) | (have hs0 := hb.size; simp at hs0 ⊢; omega) | (have hs1 := hb1.size; simp at hs1 ⊢; omega) | (have hs1 := hb1.size; have hs2 := hb2.size; simp at hs1 hs2 ⊢; omega))) | exact Below.refl _ _ | refine below_alloc ?_ _ | refine below_drew ?_ | refine below_drewn ?_ _ | refine below_step ?_ hb | refine below_step ?_ hb0 | refine below_step ?_ hb1 | refine below_step ?_ hb2 | refine below_step ?_ hb3 | refine below_step ?_ hb4 | refine below_step ?_ hb5 | refine below_step ?_ hb6 | refine below_step ?_ hb7)))
        (first | (go_at_call 55; (with_reducible refine (CA.out _ ?_ ?_).mono ?_); (exact RA.out.below (by repeat (first | (refine below_set ?_ ?hsz _; case hsz => (first | omega | (simp; done) | (simp; omega) | (have hs0 := hb.size; simp at hs0 ⊢; omega) | (have hs1 := hb1.size; simp at hs1 ⊢; omega) | (have hs1 := hb1.size; have hs2 := hb2.size; simp at hs1 hs2 ⊢; omega))) | exact Below.refl _ _ | refine below_alloc ?_ _ | refine below_drew ?_ | refine below_drewn ?_ _ | refine below_step ?_ hb | refine below_step ?_ hb0 | refine below_step ?_ hb1 | refine below_step ?_ hb2 | refine below_step ?_ hb3 | refine below_step ?_ hb4 | refine below_step ?_ hb5 | refine below_step ?_ hb6 | refine below_step ?_ hb7))); (exact RB.out.below (by repeat (first | (refine below_set ?_ ?hsz _; case hsz => (first | omega | (simp; done) | (simp; omega) | (have hs0 := hb.size; simp at hs0 ⊢; omega) | (have hs1 := hb1.size; simp at hs1 ⊢; omega) | (have hs1 := hb1.size; have hs2 := hb2.size; simp at hs1 hs2 ⊢; omega))) | exact Below.refl _ _ | refine below_alloc ?_ _ | refine below_drew ?_ | refine below_drewn ?_ _ | refine below_step ?_ hb | refine below_step ?_ hb0 | refine below_step ?_ hb1 | refine below_step ?_ hb2 | refine below_step ?_ hb3 | refine below_step ?_ hb4 | refine below_step ?_ hb5 | refine below_step ?_ hb6 | refine below_step ?_ hb7))); rintro e w1 ⟨rfl, hb1⟩))
      all_goals (
        go_wp2_with fail
        go_ret
        refine ⟨ret_int ?_, by repeat (first | (refine below_set ?_ ?hsz _; case hsz => (first | omega | (simp; done) | (simp; omega) | (have hs0 := hb.size; simp at hs0 ⊢; omega) | (have hs1 := hb1.size; simp at hs1 ⊢; omega) | (have hs1 := hb1.size; have hs2 := hb2.size; simp at hs1 hs2 ⊢; omega))) | exact Below.refl _ _ | refine below_alloc ?_ _ | refine below_drew ?_ | refine below_drewn ?_ _ | refine below_step ?_ hb | refine below_step ?_ hb0 | refine below_step ?_ hb1 | refine below_step ?_ hb2 | refine below_step ?_ hb3 | refine below_step ?_ hb4 | refine below_step ?_ hb5 | refine below_step ?_ hb6 | refine below_step ?_ hb7)⟩
        first
          | (rw [← E.out]; omega)
          | (rw [IntWalk.i64_in _ (by omega), ← E.out]; omega))
    · go_enter Tryd.func33, Tryd.ntmps33
      go_wp2_with fail
      go_region_held3 (fun w' => w'.cell? ⟨w.heap.size, 0, none⟩ = some (.int .i64 1) ∧ w'.cell? ⟨w.heap.size, 1, none⟩ = some (.slice A nx ca) ∧ w'.cell? ⟨w.heap.size + 1, 0, none⟩ = some (.int .i64 1) ∧ w'.cell? ⟨w.heap.size + 1, 1, none⟩ = some (.slice B ny cb) ∧ Below ((w.alloc (.cells #[.int .i64 1, .slice A nx ca] 42)).alloc (.cells #[.int .i64 1, .slice B ny cb] 42)).heap.size ((w.alloc (.cells #[.int .i64 1, .slice A nx ca] 42)).alloc (.cells #[.int .i64 1, .slice B ny cb] 42)) w')
        ((refine keep4 ?_ (lt2a _ _ _) (two0 _ _ _ _ _) (lt2a _ _ _) (two1 _ _ _ _ _) (lt2b _ _ _) (top0 _ _ _ _ _) (lt2b _ _ _) (top1 _ _ _ _ _); repeat (first | (refine below_set ?_ ?hsz _; case hsz => (first | omega | (simp; done) | (simp; omega) | (have hs0 := hb.size; simp at hs0 ⊢; omega) | (have hs1 := hb1.size; simp at hs1 ⊢; omega) | (have hs1 := hb1.size; have hs2 := hb2.size; simp at hs1 hs2 ⊢; omega))) | exact Below.refl _ _ | refine below_alloc ?_ _ | refine below_drew ?_ | refine below_drewn ?_ _ | refine below_step ?_ hb | refine below_step ?_ hb0 | refine below_step ?_ hb1 | refine below_step ?_ hb2 | refine below_step ?_ hb3 | refine below_step ?_ hb4 | refine below_step ?_ hb5 | refine below_step ?_ hb6 | refine below_step ?_ hb7)))
        (first | (go_at_call 55; (with_reducible refine (CA.out _ ?_ ?_).mono ?_); (exact RA.out.below (by repeat (first | (refine below_set ?_ ?hsz _; case hsz => (first | omega | (simp; done) | (simp; omega) | (have hs0 := hb.size; simp at hs0 ⊢; omega) | (have hs1 := hb1.size; simp at hs1 ⊢; omega) | (have hs1 := hb1.size; have hs2 := hb2.size; simp at hs1 hs2 ⊢; omega))) | exact Below.refl _ _ | refine below_alloc ?_ _ | refine below_drew ?_ | refine below_drewn ?_ _ | refine below_step ?_ hb | refine below_step ?_ hb0 | refine below_step ?_ hb1 | refine below_step ?_ hb2 | refine below_step ?_ hb3 | refine below_step ?_ hb4 | refine below_step ?_ hb5 | refine below_step ?_ hb6 | refine below_step ?_ hb7))); (exact RB.out.below (by repeat (first | (refine below_set ?_ ?hsz _; case hsz => (first | omega | (simp; done) | (simp; omega) | (have hs0 := hb.size; simp at hs0 ⊢; omega) | (have hs1 := hb1.size; simp at hs1 ⊢; omega) | (have hs1 := hb1.size; have hs2 := hb2.size; simp at hs1 hs2 ⊢; omega))) | exact Below.refl _ _ | refine below_alloc ?_ _ | refine below_drew ?_ | refine below_drewn ?_ _ | refine below_step ?_ hb | refine below_step ?_ hb0 | refine below_step ?_ hb1 | refine below_step ?_ hb2 | refine below_step ?_ hb3 | refine below_step ?_ hb4 | refine below_step ?_ hb5 | refine below_step ?_ hb6 | refine below_step ?_ hb7))); rintro e w1 ⟨rfl, hb1⟩))
      all_goals (
        go_wp2_with fail
        go_ret
        refine ⟨ret_int ?_, by repeat (first | (refine below_set ?_ ?hsz _; case hsz => (first | omega | (simp; done) | (simp; omega) | (have hs0 := hb.size; simp at hs0 ⊢; omega) | (have hs1 := hb1.size; simp at hs1 ⊢; omega) | (have hs1 := hb1.size; have hs2 := hb2.size; simp at hs1 hs2 ⊢; omega))) | exact Below.refl _ _ | refine below_alloc ?_ _ | refine below_drew ?_ | refine below_drewn ?_ _ | refine below_step ?_ hb | refine below_step ?_ hb0 | refine below_step ?_ hb1 | refine below_step ?_ hb2 | refine below_step ?_ hb3 | refine below_step ?_ hb4 | refine below_step ?_ hb5 | refine below_step ?_ hb6 | refine below_step ?_ hb7)⟩
        first
          | (rw [← E.out]; omega)
          | (rw [IntWalk.i64_in _ (by omega), ← E.out]; omega))
  · have E : Hid (sgn (x - y) = 1) := by
      have := sgn_less (x := y) (y := x) (by omega)
      unfold Hid
      rw [← Int.neg_sub, sgn_neg, this]; rfl
    rw [← hs, ← ht]
    clear hs ht ha hb la lb
    generalize (digs x.natAbs).length = nx at *
    generalize (digs y.natAbs).length = ny at *
    go_enter Tryd.func33, Tryd.ntmps33
    go_wp2_with fail
    go_ret
    exact ⟨ret_int E.out.symm, below2 _ _ _⟩

theorem digs_len_sca {n s m : Int} (h : okN n s) (hs : s ≤ m) (hm : m ≤ 12) : (digs (sca n s m).natAbs).length ≤ 100 := by
  have := Fits.scaled ⟨h.1, h.2.1⟩ hs (by have := h.2.2.1; omega)
  refine digs_len (Nat.lt_of_le_of_lt (m := 1000000000000000000000000000) (by omega) (by decide))
/-- a row of digits is kept by stores into another block -/
theorem num_kept {w : World} {A : Option Addr} {l : List Int} {b : Nat} (h : Row w A l) (hb : ∀ x, A = some x → x.block ≠ b) (u v : Value) : Row ((w.setCell ⟨b, 0, none⟩ u).setCell ⟨b, 1, none⟩ v) A l := fun hl => by
  obtain ⟨g, off, e, hg, hc⟩ := h hl
  have hne := hb _ e
  simp only at hne
  refine ⟨g, off, e, by simpa [World.setCell] using hg, fun i hi => ?_⟩
  rw [World.cell?_setCell_other _ _ _ _ (by first | (simp; done) | (simp; omega)), World.cell?_setCell_other _ _ _ _ (by first | (simp; done) | (simp; omega))]
  exact hc i hi
set_option maxHeartbeats 2000000 in
theorem at_any (n s m : Int) (w : World) (h : okN n s) (hs : s ≤ m) (hm : m ≤ 12) :
    Calls Tryd.prog 31 #[(.agg #[.int .i64 (n), .int .i64 (s)]), .int .i64 m] w (NumIs (sca n s m) w) := by
  obtain ⟨k, hk⟩ : ∃ k : Nat, m - s = k := ⟨(m - s).toNat, by omega⟩
  obtain ⟨h1, h2, h3, h4⟩ := h
  have e : sca n s m = n * ((10 ^ k : Nat) : Int) := by
    rw [show m = s + k by omega]; exact sca_nat n s k
  have hk1 : k ≤ 1000 := by omega
  rw [e]
  have HC := hide (fun W => of_any n k W h1 h2 hk1)
  have HK := hide hk
  clear e hk
  go_enter Tryd.func31, Tryd.ntmps31
  go_wp2_with fail
  rw [HK.out]
  refine (HC.out _).mono ?_
  rintro e w1 ⟨A, c, rfl, la, lc, hr, fr, hb1⟩
  have r0 : w1.cell? ⟨w.heap.size + 1, 0, none⟩ = some (.int .i64 0) := (hb1.cell (p := ⟨w.heap.size + 1, 0, none⟩) (lt2b _ _ _)).trans (top0 _ _ _ _ _)
  have r1 : w1.cell? ⟨w.heap.size + 1, 1, none⟩ = some (.slice none 0 0) := (hb1.cell (p := ⟨w.heap.size + 1, 1, none⟩) (lt2b _ _ _)).trans (top1 _ _ _ _ _)
  have f0 : w1.frozen? ⟨w.heap.size + 1, 0, none⟩ = false := (hb1.frozen (p := ⟨w.heap.size + 1, 0, none⟩) (lt2b _ _ _)).trans (by simp [go_sem])
  have f1 : w1.frozen? ⟨w.heap.size + 1, 1, none⟩ = false := (hb1.frozen (p := ⟨w.heap.size + 1, 1, none⟩) (lt2b _ _ _)).trans (by simp [go_sem])
  have R := hide (num_kept (b := w.heap.size + 1) hr (fun x hx => by have := fr x hx; simp at this; omega))
  have F := hide fr
  have LA := hide la
  generalize hd : digs (n * ((10 ^ k : Nat) : Int)).natAbs = D at *
  generalize hn : D.length = nD at *
  clear fr hr la
  go_wp2_with fail
  refine bodyPost_ret (v := .agg #[.int .i64 (sgn (n * ((10 ^ k : Nat) : Int))), .slice A nD c]) (by simp [results, Tryd.results31, go_sem, r0, r1]) rfl ?_
  subst hn hd
  exact ⟨A, c, rfl, LA.out, lc, R.out _ _, fun x hx => by have := F.out x hx; simp at this; omega, by repeat (first | (refine below_set ?_ ?hsz _; case hsz => (first | omega | (simp; done) | (simp; omega) | (have hs0 := hb.size; simp at hs0 ⊢; omega) | (have hs1 := hb1.size; simp at hs1 ⊢; omega) | (have hs1 := hb1.size; have hs2 := hb2.size; simp at hs1 hs2 ⊢; omega))) | exact Below.refl _ _ | refine below_alloc ?_ _ | refine below_drew ?_ | refine below_drewn ?_ _ | refine below_step ?_ hb | refine below_step ?_ hb0 | refine below_step ?_ hb1 | refine below_step ?_ hb2 | refine below_step ?_ hb3 | refine below_step ?_ hb4 | refine below_step ?_ hb5 | refine below_step ?_ hb6 | refine below_step ?_ hb7)⟩
end Go.Proofs.YtgppimdakafniaaDoor
