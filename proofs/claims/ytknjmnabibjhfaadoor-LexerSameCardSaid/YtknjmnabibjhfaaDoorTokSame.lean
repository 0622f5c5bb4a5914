/- What Same returns on two slices of tokens, and what the reference's same returns. No condition. -/
import Derived.Test.YtknjmnabibjhfaaDoorTokEq
namespace Go.Proofs.YtknjmnabibjhfaaDoor.Tok
open Go Go.RowKit Go.PlainAid
/-- equal lists but for the places -/
def sameP (a b : List E) : Prop := a.length = b.length ∧ ∀ i, i < a.length → eqT (at_ a i) (at_ b i) = true
instance (a b : List E) : Decidable (sameP a b) := by unfold sameP; infer_instance
theorem eqT_refl (p : E) : eqT p p = true := by simp [eqT]
theorem sameP_refl (a : List E) : sameP a a := ⟨rfl, fun _ _ => eqT_refl _⟩
theorem split_E (p : E) : ∃ a l c t v n s j, p = (a, l, c, t, v, n, s, j) := ⟨_, _, _, _, _, _, _, _, rfl⟩
set_option maxRecDepth 100000 in
set_option maxHeartbeats 4000000 in
theorem equalFunc_any (A B : Option Addr) (la lb : List E) (ca cb : Nat) (w : World) (ha : Row w A la) (hb : Row w B lb) (hla : la.length ≤ 30) (hlb : lb.length ≤ 30) :
    Calls Tryd.prog 8 #[.slice A la.length ca, .slice B lb.length cb, .func (.func 9) #[] #[]] w fun e w' => e = .returned (.bool (decide (sameP la lb))) ∧ Below w.heap.size w w' := by
  have HA := hide ha
  have HB := hide hb
  clear ha hb
  by_cases hlen : la.length = lb.length
  · have hne : ((la.length : Int) != (lb.length : Int)) = false := by rw [hlen]; simp
    have HL := hide hlen
    clear hlen
    go_enter Tryd.func8, Tryd.ntmps8
    go_wp2_with fail
    go_loopw [17] (fun x wr => ∃ k : Nat, k ≤ la.length ∧ x = .int .i64 k ∧ (∀ j, j < k → eqT (at_ la j) (at_ lb j) = true) ∧ Below w.heap.size w wr) (fun x _ => la.length - (intOf x).toNat)
    case atStart => exact ⟨0, Nat.zero_le _, rfl, fun j hj => by omega, Below.refl _ _⟩
    case round =>
      obtain ⟨k, hk, rfl, hall, hb⟩ := hrel
      by_cases hlt : k < la.length
      · have hltb : k < lb.length := by have := HL.out; omega
        obtain ⟨g, off, rfl, hg, hc⟩ := HA.out (by omega)
        obtain ⟨g', off', rfl, hg', hc'⟩ := HB.out (by omega)
        obtain ⟨a, l, c, t, v, n, s, j, hp⟩ := split_E (at_ la k)
        obtain ⟨a', l', c', t', v', n', s', j', hq⟩ := split_E (at_ lb k)
        have d := (hc k hlt).below hg hb
        have e := (hc' k (by omega)).below hg' hb
        rw [hp] at d
        rw [hq] at e
        obtain ⟨d0, d1, d2, d3, d4, d5, d6, d7⟩ := d
        obtain ⟨e0, e1, e2, e3, e4, e5, e6, e7⟩ := e
        simp only at d0 d1 d2 d3 d4 d5 d6 d7 e0 e1 e2 e3 e4 e5 e6 e7
        have hi0 : (0 : Int) ≤ (k : Int) := Int.natCast_nonneg _
        have hi1 : (k : Int) < (la.length : Int) := by omega
        have hi2 : (k : Int) < (lb.length : Int) := by omega
        have hgr : g < wr.heap.size := Nat.lt_of_lt_of_le hg hb.size
        have hgr' : g' < wr.heap.size := Nat.lt_of_lt_of_le hg' hb.size
        have HALL := hide hall
        clear hc hc' hall
        go_wp2_with fail
        refine (eq_any a l c t v n s j a' l' c' t' v' n' s' j' _).mono ?_
        rintro e w1 ⟨rfl, b1⟩
        have hb1 : Below w.heap.size w w1 := ((hb.alloc hb.size _).alloc (by have := hb.size; simp; omega) _).trans (b1.mono (by have := hb.size; simp; omega))
        have NC : Hid (eqT (a, l, c, t, v, n, s, j) (a', l', c', t', v', n', s', j') = false → decide (sameP la lb) = false) := hide fun h => decide_eq_false fun hc => by
          have := hc.2 k hlt
          rw [hp, hq, h] at this
          cases this
        have NX : Hid (eqT (a, l, c, t, v, n, s, j) (a', l', c', t', v', n', s', j') = true → ∀ j, j < k + 1 → eqT (at_ la j) (at_ lb j) = true) := hide fun h i hi => by
          by_cases hik : i = k
          · subst hik; rw [hp, hq]; exact h
          · exact HALL.out i (by omega)
        clear b1
        cases hx : eqT (a, l, c, t, v, n, s, j) (a', l', c', t', v', n', s', j')
        · have hn := NC.out hx
          clear NC NX hx
          go_wp2_with fail
          go_returns
          refine ⟨?_, hb1⟩
          first
          | (rw [hn]; done)
          | (rw [hn]; rfl)
        · have hn := hide (NX.out hx)
          clear NC NX hx
          go_wp2_with fail
          go_roundw
          case rel => exact ⟨k + 1, by omega, by go_num, hn.out, hb1⟩
          case measure => simp [intOf]; omega
      · obtain rfl : k = la.length := by omega
        have hn : decide (sameP la lb) = true := decide_eq_true ⟨HL.out, hall⟩
        clear hall
        go_wp2_with fail
        go_returns
        refine ⟨?_, hb⟩
        first
        | (rw [hn]; done)
        | (rw [hn]; rfl)
  · have hn : decide (sameP la lb) = false := decide_eq_false fun h => hlen h.1
    have hne : ((la.length : Int) == (lb.length : Int)) = false := by simp; omega
    have hne' : ¬ (la.length : Int) = (lb.length : Int) := by omega
    go_enter Tryd.func8, Tryd.ntmps8
    go_wp2_with fail
    go_returns
    refine ⟨?_, Below.refl _ _⟩
    first
    | (rw [hn]; done)
    | (rw [hn]; rfl)

/-- Same of the lexer -/
theorem same_any (A B : Option Addr) (la lb : List E) (ca cb : Nat) (w : World) (ha : Row w A la) (hb : Row w B lb) (hla : la.length ≤ 30) (hlb : lb.length ≤ 30) :
    Calls Tryd.prog 5 #[.slice A la.length ca, .slice B lb.length cb] w fun e w' => e = .returned (.bool (decide (sameP la lb))) ∧ Below w.heap.size w w' := by
  go_enter Tryd.func5, Tryd.ntmps5
  go_wp2_with fail
  refine (equalFunc_any A B la lb ca cb _ ha hb hla hlb).mono ?_
  rintro e w1 ⟨rfl, b1⟩
  go_wp2_with fail
  go_returns
  exact ⟨rfl, b1⟩
end Go.Proofs.YtknjmnabibjhfaaDoor.Tok
