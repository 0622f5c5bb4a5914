/- What the reference's same returns on two slices of tokens, without the places. No condition. -/
import Derived.Test.YtknjmnabibjhfaaDoorTokSame
namespace Go.Proofs.YtknjmnabibjhfaaDoor.Tok
open Go Go.RowKit Go.PlainAid
set_option maxRecDepth 100000 in
set_option maxHeartbeats 8000000 in
theorem ref_any (A B : Option Addr) (la lb : List E) (ca cb : Nat) (w : World) (ha : Row w A la) (hb : Row w B lb) (hla : la.length ≤ 30) (hlb : lb.length ≤ 30) :
    Calls Tryd.prog 6 #[.slice A la.length ca, .slice B lb.length cb, .bool false] w fun e w' => e = .returned (.bool (decide (sameP la lb))) ∧ Below w.heap.size w w' := by
  have HA := hide ha
  have HB := hide hb
  clear ha hb
  by_cases hlen : la.length = lb.length
  · have hne : ((la.length : Int) != (lb.length : Int)) = false := by rw [hlen]; simp
    have HL := hide hlen
    clear hlen
    go_enter Tryd.func6, Tryd.ntmps6
    go_wp2_with fail
    go_loopw [7] (fun x wr => ∃ k : Nat, k ≤ la.length ∧ x = .int .i64 k ∧ (∀ j, j < k → eqT (at_ la j) (at_ lb j) = true) ∧ Below w.heap.size w wr) (fun x _ => la.length - (intOf x).toNat)
    case atStart => exact ⟨0, Nat.zero_le _, rfl, fun j hj => by omega, Below.refl _ _⟩
    case round =>
      obtain ⟨k, hk, rfl, hall, hb⟩ := hrel
      by_cases hlt : k < la.length
      · have hltb : k < lb.length := by have := HL.out; omega
        obtain ⟨g, off, rfl, hg, hc⟩ := HA.out (by omega)
        obtain ⟨g', off', rfl, hg', hc'⟩ := HB.out (by omega)
        obtain ⟨a, l, c, t, v, n, s, j, hp⟩ := split_E (at_ la k)
        obtain ⟨a', l', c', t', v', n', s', j', hq⟩ := split_E (at_ lb k)
        have d := (hc k hlt).below hg hb
        have e := (hc' k (by omega)).below hg' hb
        rw [hp] at d
        rw [hq] at e
        obtain ⟨d0, d1, d2, d3, d4, d5, d6, d7⟩ := d
        obtain ⟨e0, e1, e2, e3, e4, e5, e6, e7⟩ := e
        simp only at d0 d1 d2 d3 d4 d5 d6 d7 e0 e1 e2 e3 e4 e5 e6 e7
        have hi0 : (0 : Int) ≤ (k : Int) := Int.natCast_nonneg _
        have hi1 : (k : Int) < (la.length : Int) := by omega
        have hi2 : (k : Int) < (lb.length : Int) := by omega
        have hgr : g < wr.heap.size := Nat.lt_of_lt_of_le hg hb.size
        have hgr' : g' < wr.heap.size := Nat.lt_of_lt_of_le hg' hb.size
        have NC : Hid (eqT (a, l, c, t, v, n, s, j) (a', l', c', t', v', n', s', j') = false → decide (sameP la lb) = false) := hide fun h => decide_eq_false fun hc => by
          have := hc.2 k hlt
          rw [hp, hq, h] at this
          cases this
        have HALL := hide hall
        have NX : Hid (eqT (a, l, c, t, v, n, s, j) (a', l', c', t', v', n', s', j') = true → ∀ j, j < k + 1 → eqT (at_ la j) (at_ lb j) = true) := hide fun h i hi => by
          by_cases hik : i = k
          · subst hik; rw [hp, hq]; exact h
          · exact HALL.out i (by omega)
        have HBel := hide hb
        clear hc hc' hall hb hp hq
        go_wp2_with fail
        go_region_held3 (fun w' => w'.cell? ⟨g, off + k * 8, none⟩ = some (.int .i64 a) ∧ w'.cell? ⟨g, off + k * 8 + 1, none⟩ = some (.int .i64 l) ∧ w'.cell? ⟨g, off + k * 8 + 2, none⟩ = some (.int .i64 c) ∧ w'.cell? ⟨g, off + k * 8 + 3, none⟩ = some (.string t) ∧ w'.cell? ⟨g, off + k * 8 + 4, none⟩ = some (.string v) ∧ w'.cell? ⟨g, off + k * 8 + 5, none⟩ = some (.int .i64 n) ∧ w'.cell? ⟨g, off + k * 8 + 6, none⟩ = some (.int .i64 s) ∧ w'.cell? ⟨g, off + k * 8 + 7, none⟩ = some (.bool j) ∧
          w'.cell? ⟨g', off' + k * 8, none⟩ = some (.int .i64 a') ∧ w'.cell? ⟨g', off' + k * 8 + 1, none⟩ = some (.int .i64 l') ∧ w'.cell? ⟨g', off' + k * 8 + 2, none⟩ = some (.int .i64 c') ∧ w'.cell? ⟨g', off' + k * 8 + 3, none⟩ = some (.string t') ∧ w'.cell? ⟨g', off' + k * 8 + 4, none⟩ = some (.string v') ∧ w'.cell? ⟨g', off' + k * 8 + 5, none⟩ = some (.int .i64 n') ∧ w'.cell? ⟨g', off' + k * 8 + 6, none⟩ = some (.int .i64 s') ∧ w'.cell? ⟨g', off' + k * 8 + 7, none⟩ = some (.bool j'))
          (go_keep) (fail)
        all_goals
          go_wp2_with fail
        all_goals first
          | (go_returns
             have hn := NC.out (by simp_all [eqT])
             refine ⟨?_, ((HBel.out.alloc HBel.out.size _).alloc (by have := HBel.out.size; simp; omega) _).drew⟩
             first
             | (rw [hn]; done)
             | (rw [hn]; rfl))
          | (go_roundw
             case rel => exact ⟨k + 1, by omega, by go_num, NX.out (by simp_all [eqT]), ((HBel.out.alloc HBel.out.size _).alloc (by have := HBel.out.size; simp; omega) _).drew⟩
             case measure => simp [intOf]; omega)
      · obtain rfl : k = la.length := by omega
        have hn : decide (sameP la lb) = true := decide_eq_true ⟨HL.out, hall⟩
        clear hall
        go_wp2_with fail
        go_returns
        refine ⟨?_, hb⟩
        first
        | (rw [hn]; done)
        | (rw [hn]; rfl)
  · have hn : decide (sameP la lb) = false := decide_eq_false fun h => hlen h.1
    have hne : ((la.length : Int) == (lb.length : Int)) = false := by simp; omega
    have hne' : ¬ (la.length : Int) = (lb.length : Int) := by omega
    go_enter Tryd.func6, Tryd.ntmps6
    go_wp2_with fail
    go_returns
    refine ⟨?_, Below.refl _ _⟩
    first
    | (rw [hn]; done)
    | (rw [hn]; rfl)
end Go.Proofs.YtknjmnabibjhfaaDoor.Tok
