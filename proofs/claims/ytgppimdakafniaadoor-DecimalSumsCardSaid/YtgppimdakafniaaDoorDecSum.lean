/- Sums of lists of numbers: plain arithmetic. No condition. -/
import Derived.Test.YtgppimdakafniaaDoorDecOut
namespace Go.Proofs.YtgppimdakafniaaDoor

/-- the greatest scale, and the sum at a scale -/
def mxs : List (Int × Int) → Int
  | [] => 0
  | p :: l => max p.2 (mxs l)
def tot : List (Int × Int) → Int → Int
  | [], _ => 0
  | p :: l, m => sca p.1 p.2 m + tot l m
def allOk (l : List (Int × Int)) : Prop := ∀ p ∈ l, okN p.1 p.2
theorem mxs_nonneg : ∀ l : List (Int × Int), 0 ≤ mxs l
  | [] => by decide
  | p :: l => by have := mxs_nonneg l; rw [mxs]; omega
theorem mxs_snoc : ∀ (l : List (Int × Int)) (p : Int × Int), mxs (l ++ [p]) = max (mxs l) p.2
  | [], p => by simp only [List.nil_append, mxs]; omega
  | q :: l, p => by rw [List.cons_append, mxs, mxs, mxs_snoc l p]; omega
theorem tot_snoc : ∀ (l : List (Int × Int)) (p : Int × Int) (m : Int), tot (l ++ [p]) m = tot l m + sca p.1 p.2 m
  | [], p, m => by simp only [List.nil_append, tot]; omega
  | q :: l, p, m => by rw [List.cons_append, tot, tot, tot_snoc l p m]; omega
theorem mxs_le : ∀ (l : List (Int × Int)), allOk l → mxs l ≤ 12
  | [], _ => by decide
  | p :: l, h => by
    have := mxs_le l fun q hq => h q (List.mem_cons_of_mem _ hq)
    have := (h p (List.mem_cons_self ..)).2.2.2
    rw [mxs]; omega
theorem le_mxs : ∀ (l : List (Int × Int)), ∀ p ∈ l, p.2 ≤ mxs l
  | q :: l, p, h => by
    rw [mxs]
    rcases List.mem_cons.1 h with rfl | h
    · omega
    · have := le_mxs l p h; omega
theorem tot_bound : ∀ (l : List (Int × Int)) (m : Int), allOk l → (∀ p ∈ l, p.2 ≤ m) → m ≤ 12 → -(1000000000000000000000000000 * (l.length : Int)) ≤ tot l m ∧ tot l m ≤ 1000000000000000000000000000 * (l.length : Int)
  | [], m, _, _, _ => by simp [tot]
  | p :: l, m, h, g, hm => by
    have ih := tot_bound l m (fun q hq => h q (List.mem_cons_of_mem _ hq)) (fun q hq => g q (List.mem_cons_of_mem _ hq)) hm
    have hp := h p (List.mem_cons_self ..)
    have hb := sca_bound (n := p.1) (s := p.2) (m := m) (b := 999999999999999) (g p (List.mem_cons_self ..)) (by have := hp.2.2.1; omega) hp.1 hp.2.1
    rw [tot, List.length_cons]
    push_cast
    omega
theorem perm_facts {l k : List (Int × Int)} (h : l.Perm k) : mxs l = mxs k ∧ (∀ m, tot l m = tot k m) ∧ (allOk l ↔ allOk k) := by
  refine ⟨?_, fun m => ?_, ⟨fun g p hp => g p (h.mem_iff.2 hp), fun g p hp => g p (h.mem_iff.1 hp)⟩⟩
  · induction h with
    | nil => rfl
    | cons x _ ih => rw [mxs, mxs, ih]
    | swap x y l => rw [mxs, mxs, mxs, mxs]; omega
    | trans _ _ h1 h2 => exact h1.trans h2
  · induction h with
    | nil => rfl
    | cons x _ ih => rw [tot, tot, ih]
    | swap x y l => rw [tot, tot, tot, tot]; omega
    | trans _ _ h1 h2 => exact h1.trans h2
/-- what Sum comes to -/
def SumOut (l : List (Int × Int)) (n t e : Int) : Prop :=
  (256 < l.length ∧ n = 0 ∧ t = 0 ∧ e = 9) ∨ (l.length ≤ 256 ∧ ¬ allOk l ∧ n = 0 ∧ t = 0 ∧ e = 2) ∨ (l.length ≤ 256 ∧ allOk l ∧ NumOut (tot l (mxs l)) (mxs l) n t e)
theorem SumOut.one {l : List (Int × Int)} {n t e n' t' e' : Int} (h : SumOut l n t e) (g : SumOut l n' t' e') : n = n' ∧ t = t' ∧ e = e' := by
  rcases h with ⟨hb, rfl, rfl, rfl⟩ | ⟨hb, hs, rfl, rfl, rfl⟩ | ⟨hb, hs, h⟩ <;> rcases g with ⟨gb, rfl, rfl, rfl⟩ | ⟨gb, gs, rfl, rfl, rfl⟩ | ⟨gb, gs, g⟩
  · exact ⟨rfl, rfl, rfl⟩
  · omega
  · omega
  · omega
  · exact ⟨rfl, rfl, rfl⟩
  · exact absurd gs hs
  · omega
  · exact absurd hs gs
  · exact h.one g
theorem SumOut.perm {l k : List (Int × Int)} (hp : l.Perm k) {n t e : Int} (h : SumOut l n t e) : SumOut k n t e := by
  obtain ⟨f1, f2, f3⟩ := perm_facts hp
  have hl := hp.length_eq
  rcases h with ⟨a, b⟩ | ⟨a, b, c⟩ | ⟨a, b, c⟩
  · exact .inl ⟨by omega, b⟩
  · exact .inr (.inl ⟨by omega, fun g => b (f3.2 g), c⟩)
  · exact .inr (.inr ⟨by omega, f3.1 b, by rw [← f1, ← f2]; exact c⟩)
/-- an exchange of two elements -/
def swp (l : List (Int × Int)) (i k : Nat) : List (Int × Int) := (l.set i (l.getD k (0, 0))).set k (l.getD i (0, 0))
theorem swp_perm (l : List (Int × Int)) (i k : Nat) (hi : i < l.length) (hk : k < l.length) : l.Perm (swp l i k) := by
  have h1 : l.getD k (0, 0) = l[k] := by simp [List.getD, hk]
  have h2 : l.getD i (0, 0) = l[i] := by simp [List.getD, hi]
  unfold swp
  rw [h1, h2]
  exact (List.set_set_perm hi hk).symm
end Go.Proofs.YtgppimdakafniaaDoor
