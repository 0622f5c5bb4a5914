/- When a list of parts covers another; what isAll returns. No condition. -/
import Derived.Test.YtllfeoinmjbeaaaDoorPcRow
namespace Go.Proofs.YtllfeoinmjbeaaaDoor.Pc
open Go Go.RowKit Go.PlainAid

theorem text_eq {a b : ByteArray} (h : a.toList = b.toList) : a = b := by
  rw [ByteArray.toList_eq, ByteArray.toList_eq] at h
  exact Go.WideShapes.bytes_inj h
def isA (p : Pt) : Prop := p.1 = 3 ∧ p.2.1 = 0 ∧ p.2.2.toList = []
def same (p q : Pt) : Prop := p.1 = q.1 ∧ p.2.1 = q.2.1 ∧ p.2.2.toList = q.2.2.toList
/-- a part covers another -/
def c1 (p q : Pt) : Prop := same p q ∨ (isA p ∧ q.1 = 2)
instance (p : Pt) : Decidable (isA p) := by unfold isA; infer_instance
instance (p q : Pt) : Decidable (same p q) := by unfold same; infer_instance
instance (p q : Pt) : Decidable (c1 p q) := by unfold c1; infer_instance
/-- a list of parts covers another -/
def cov (a b : List Pt) : Prop := a.length ≤ b.length ∧ ∀ i, i < a.length → c1 (atP a i) (atP b i)
instance (a b : List Pt) : Decidable (cov a b) := by unfold cov; infer_instance

theorem isAll_any (a b : Int) (s : ByteArray) (w : World) :
    Calls Tryd.prog 11 #[.agg #[.int .i64 a, .int .i64 b, .string s]] w fun e w' => e = .returned (.bool (decide (isA (a, b, s)))) ∧ Below w.heap.size w w' := by
  go_enter Tryd.func11, Tryd.ntmps11
  go_wp2_with fail
  all_goals (
    go_returns
    refine ⟨?_, (Below.refl _ _).alloc (Nat.le_refl _) _⟩
    simp_all [isA])

theorem refl1 (p : Pt) : c1 p p := .inl ⟨rfl, rfl, rfl⟩
theorem trans1 {p q r : Pt} (h : c1 p q) (k : c1 q r) : c1 p r := by
  rcases h with ⟨h1, h2, h3⟩ | ⟨⟨h1, h2, h3⟩, h4⟩
  · rcases k with ⟨k1, k2, k3⟩ | ⟨⟨k1, k2, k3⟩, k4⟩
    · exact .inl ⟨h1.trans k1, h2.trans k2, h3.trans k3⟩
    · exact .inr ⟨⟨h1.trans k1, h2.trans k2, h3.trans k3⟩, k4⟩
  · rcases k with ⟨k1, k2, k3⟩ | ⟨⟨k1, k2, k3⟩, k4⟩
    · exact .inr ⟨⟨h1, h2, h3⟩, k1.symm.trans h4⟩
    · omega
theorem cov_refl (a : List Pt) : cov a a := ⟨Nat.le_refl _, fun _ _ => refl1 _⟩
theorem cov_trans {a b c : List Pt} (h : cov a b) (k : cov b c) : cov a c := ⟨Nat.le_trans h.1 k.1, fun i hi => trans1 (h.2 i hi) (k.2 i (Nat.lt_of_lt_of_le hi h.1))⟩
end Go.Proofs.YtllfeoinmjbeaaaDoor.Pc
