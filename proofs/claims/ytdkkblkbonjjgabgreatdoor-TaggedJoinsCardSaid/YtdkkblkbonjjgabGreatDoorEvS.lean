/- A reckoner for calls, continued: what the facts on named numbers and texts say. No condition. -/
import Derived.Test.YtdkkblkbonjjgabGreatDoorEv1
import Derived.Laws.BytesString
import Derived.Laws.Sem
import Derived.Laws.StructEq
set_option linter.unusedSectionVars false
namespace Go.Proofs.YtdkkblkbonjjgabGreatDoor.Ev
open Go
variable [Env]

theorem bytes_beq {a b : ByteArray} (h : (a == b) = true) : a = b := by
  have := (Go.beq_toListBytes a b).symm.trans h
  rw [beq_iff_eq, ByteArray.toList_eq, ByteArray.toList_eq] at this
  cases a; cases b
  congr 1
  exact Array.ext' this

omit [Env] in
theorem seq_ne {a b : ByteArray} (h : a ≠ b) : (a.toList == b.toList) = false := by
  cases e : (a.toList == b.toList)
  · rfl
  · rw [← Go.beq_toListBytes] at e
    have := (Go.beq_toListBytes a b).symm.trans e
    rw [beq_iff_eq, ByteArray.toList_eq, ByteArray.toList_eq] at this
    exact absurd (by
      cases a; cases b
      congr 1
      exact Array.ext' this) h

theorem SE.beq_ok : ∀ (a b : SE), a.beq b = true → a = b := by
  intro a
  induction a with
  | lit a => intro b h; cases b with
    | lit b => rw [bytes_beq h]
    | _ => exact absurd h (by simp [SE.beq])
  | v n => intro b h; cases b with
    | v m => rw [Nat.eq_of_beq_eq_true h]
    | _ => exact absurd h (by simp [SE.beq])
  | cat a c iha ihc => intro b h; cases b with
    | cat b d =>
      simp only [SE.beq, Bool.and_eq_true] at h
      rw [iha _ h.1, ihc _ h.2]
    | _ => exact absurd h (by simp [SE.beq])
  | sub a l k ih => intro b h; cases b with
    | sub b l' k' =>
      simp only [SE.beq, Bool.and_eq_true] at h
      rw [ih _ h.1.1, Nat.eq_of_beq_eq_true h.1.2, Nat.eq_of_beq_eq_true h.2]
    | _ => exact absurd h (by simp [SE.beq])

theorem IE.beq_ok : ∀ (a b : IE), a.beq b = true → a = b := by
  intro a
  induction a with
  | lit a => intro b h; cases b with
    | lit b => rw [of_decide_eq_true h]
    | _ => exact absurd h (by simp [IE.beq])
  | v n => intro b h; cases b with
    | v m => rw [Nat.eq_of_beq_eq_true h]
    | _ => exact absurd h (by simp [IE.beq])
  | len a => intro b h; cases b with
    | len b => rw [SE.beq_ok _ _ h]
    | _ => exact absurd h (by simp [IE.beq])
  | at_ a i => intro b h; cases b with
    | at_ b j =>
      simp only [IE.beq, Bool.and_eq_true] at h
      rw [SE.beq_ok _ _ h.1, Nat.eq_of_beq_eq_true h.2]
    | _ => exact absurd h (by simp [IE.beq])
  | op o k a c iha ihc => intro b h; cases b with
    | op o' k' b d =>
      simp only [IE.beq, Bool.and_eq_true, decide_eq_true_eq] at h
      rw [h.1.1.1, h.1.1.2, iha _ h.1.2, ihc _ h.2]
    | _ => exact absurd h (by simp [IE.beq])
  | conv k a ih => intro b h; cases b with
    | conv k' b =>
      simp only [IE.beq, Bool.and_eq_true, decide_eq_true_eq] at h
      rw [h.1, ih _ h.2]
    | _ => exact absurd h (by simp [IE.beq])

variable {fs : List Fact}

theorem tail_holds {f : Fact} {fs : List Fact} (h : ∀ g ∈ f :: fs, g.holds) : f.holds ∧ ∀ g ∈ fs, g.holds :=
  ⟨h f (List.mem_cons_self ..), fun g hg => h g (List.mem_cons_of_mem _ hg)⟩

theorem loG_ok : ∀ (fs : List Fact) (e : IE) (l : Int), (∀ f ∈ fs, f.holds) → loG fs e = some l → l ≤ e.den
  | [], _, _, _, h => by cases h
  | f :: fs, e, l, hf, h => by
    obtain ⟨h1, h2⟩ := tail_holds hf
    unfold loG at h
    split at h
    · rename_i hq; cases hq
    · rename_i a l' fs' hq
      cases hq
      split at h
      · rename_i hb
        cases h
        rw [← IE.beq_ok _ _ hb]
        exact h1
      · exact loG_ok _ _ l h2 h
    · rename_i hq
      cases hq
      exact loG_ok _ _ l h2 h
theorem loF_ok (fs : List Fact) (e : IE) (l : Int) (hf : ∀ f ∈ fs, f.holds) (h : loF fs e = some l) : l ≤ e.den := by
  unfold loF at h
  split at h
  · cases h; exact Int.le_refl _
  · exact loG_ok fs _ l hf h

theorem hiG_ok : ∀ (fs : List Fact) (e : IE) (l : Int), (∀ f ∈ fs, f.holds) → hiG fs e = some l → e.den ≤ l
  | [], _, _, _, h => by cases h
  | f :: fs, e, l, hf, h => by
    obtain ⟨h1, h2⟩ := tail_holds hf
    unfold hiG at h
    split at h
    · rename_i hq; cases hq
    · rename_i a l' fs' hq
      cases hq
      split at h
      · rename_i hb
        cases h
        rw [← IE.beq_ok _ _ hb]
        exact h1
      · exact hiG_ok _ _ l h2 h
    · rename_i hq
      cases hq
      exact hiG_ok _ _ l h2 h
theorem hiF_ok (fs : List Fact) (e : IE) (l : Int) (hf : ∀ f ∈ fs, f.holds) (h : hiF fs e = some l) : e.den ≤ l := by
  unfold hiF at h
  split at h
  · cases h; exact Int.le_refl _
  · exact hiG_ok fs _ l hf h

theorem ltI_ok {a b : IE} {r : Bool} (hf : ∀ f ∈ fs, f.holds) (h : ltI fs a b = some r) : decide (a.den < b.den) = r := by
  have down : ∀ l k, loF fs a = some l → hiF fs b = some k → decide (k ≤ l) = true → decide (a.den < b.den) = false := by
    intro l k h1 h2 h3
    have h1 := loF_ok _ _ _ hf h1
    have h2 := hiF_ok _ _ _ hf h2
    have h3 := of_decide_eq_true h3
    exact decide_eq_false (by omega)
  unfold ltI at h
  split at h
  · rename_i k l h1 h2
    split at h
    · rename_i h3
      cases h
      have h1 := hiF_ok _ _ _ hf h1
      have h2 := loF_ok _ _ _ hf h2
      have h3 := of_decide_eq_true h3
      exact decide_eq_true (by omega)
    · split at h
      · rename_i l' k' h4 h5
        split at h
        · rename_i h6; cases h; exact down _ _ h4 h5 h6
        · cases h
      · cases h
  · split at h
    · rename_i l' k' h4 h5
      split at h
      · rename_i h6; cases h; exact down _ _ h4 h5 h6
      · cases h
    · cases h

theorem ltF_ok : ∀ (fs : List Fact) (x y : IE) (r : Bool), (∀ f ∈ fs, f.holds) → ltF fs x y = some r → decide (x.den < y.den) = r
  | [], _, _, _, _, h => by cases h
  | f :: fs, x, y, r, hf, h => by
    obtain ⟨h1, h2⟩ := tail_holds hf
    unfold ltF at h
    split at h
    · rename_i hq; cases hq
    · rename_i a b r' fs' hq
      cases hq
      split at h
      · rename_i hb
        simp only [Bool.and_eq_true] at hb
        cases h
        rw [← IE.beq_ok _ _ hb.1, ← IE.beq_ok _ _ hb.2]
        exact h1
      · split at h
        · rename_i hb
          simp only [Bool.and_eq_true] at hb
          cases h
          have h1' : decide (a.den < b.den) = r' := h1
          rw [← IE.beq_ok _ _ hb.1.2, ← IE.beq_ok _ _ hb.2]
          rw [hb.1.1] at h1'
          have := of_decide_eq_true h1'
          exact decide_eq_false (by omega)
        · exact ltF_ok _ _ _ r h2 h
    · rename_i hq
      cases hq
      exact ltF_ok _ _ _ r h2 h

theorem ltD_ok {a b : IE} {r : Bool} (hf : ∀ f ∈ fs, f.holds) (h : ltD fs a b = some r) : decide (a.den < b.den) = r := by
  unfold ltD at h
  split at h
  · rename_i hb
    cases h
    rw [IE.beq_ok _ _ hb]
    exact decide_eq_false (by omega)
  · split at h
    · rename_i r' hr; cases h; exact ltI_ok hf hr
    · exact ltF_ok _ _ _ _ hf h

theorem eqF_ok : ∀ (fs : List Fact) (x y : IE) (r : Bool), (∀ f ∈ fs, f.holds) → eqF fs x y = some r → decide (x.den = y.den) = r
  | [], _, _, _, _, h => by cases h
  | f :: fs, x, y, r, hf, h => by
    obtain ⟨h1, h2⟩ := tail_holds hf
    unfold eqF at h
    split at h
    · rename_i hq; cases hq
    · rename_i a b r' fs' hq
      cases hq
      split at h
      · rename_i hb
        cases h
        have h1' : decide (a.den = b.den) = r := h1
        simp only [Bool.or_eq_true, Bool.and_eq_true] at hb
        rcases hb with hb | hb
        · rw [← IE.beq_ok _ _ hb.1, ← IE.beq_ok _ _ hb.2]
          exact h1'
        · rw [← IE.beq_ok _ _ hb.1, ← IE.beq_ok _ _ hb.2, ← h1']
          exact decide_eq_decide.2 ⟨Eq.symm, Eq.symm⟩
      · exact eqF_ok _ _ _ r h2 h
    · rename_i a b fs' hq
      cases hq
      split at h
      · rename_i hb
        cases h
        have h1' : decide (a.den < b.den) = true := h1
        have h1' := of_decide_eq_true h1'
        simp only [Bool.or_eq_true, Bool.and_eq_true] at hb
        rcases hb with hb | hb
        · rw [← IE.beq_ok _ _ hb.1, ← IE.beq_ok _ _ hb.2]
          exact decide_eq_false (by omega)
        · rw [← IE.beq_ok _ _ hb.1, ← IE.beq_ok _ _ hb.2]
          exact decide_eq_false (by omega)
      · exact eqF_ok _ _ _ r h2 h
    · rename_i hq
      cases hq
      exact eqF_ok _ _ _ r h2 h

theorem eqD_ok {a b : IE} {r : Bool} (hf : ∀ f ∈ fs, f.holds) (h : eqD fs a b = some r) : decide (a.den = b.den) = r := by
  unfold eqD at h
  split at h
  · rename_i hb
    cases h
    rw [IE.beq_ok _ _ hb]
    exact decide_eq_true rfl
  · split at h
    · rename_i hr
      cases h
      have := of_decide_eq_true (ltI_ok hf hr)
      exact decide_eq_false (by omega)
    · rename_i hr _
      cases h
      have := of_decide_eq_true (ltI_ok hf hr)
      exact decide_eq_false (by omega)
    · exact eqF_ok _ _ _ _ hf h

theorem seqF_ok : ∀ (fs : List Fact) (x y : SE) (r : Bool), (∀ f ∈ fs, f.holds) → seqF fs x y = some r → (x.den.toList == y.den.toList) = r
  | [], _, _, _, _, h => by cases h
  | f :: fs, x, y, r, hf, h => by
    obtain ⟨h1, h2⟩ := tail_holds hf
    unfold seqF at h
    split at h
    · rename_i hq; cases hq
    · rename_i a b r' fs' hq
      cases hq
      split at h
      · rename_i hb
        cases h
        have h1' : (a.den.toList == b.den.toList) = r := h1
        simp only [Bool.or_eq_true, Bool.and_eq_true] at hb
        rcases hb with hb | hb
        · rw [← SE.beq_ok _ _ hb.1, ← SE.beq_ok _ _ hb.2]
          exact h1'
        · rw [← SE.beq_ok _ _ hb.1, ← SE.beq_ok _ _ hb.2, ← h1']
          exact Bool.beq_comm
      · exact seqF_ok _ _ _ r h2 h
    · rename_i hq
      cases hq
      exact seqF_ok _ _ _ r h2 h

theorem seqD_ok {a b : SE} {r : Bool} (hf : ∀ f ∈ fs, f.holds) (h : seqD fs a b = some r) : (a.den.toList == b.den.toList) = r := by
  unfold seqD at h
  split at h
  · rename_i hb
    cases h
    rw [SE.beq_ok _ _ hb]
    exact beq_self_eq_true _
  · exact seqF_ok _ _ _ _ hf h

theorem sizeHi_ok (hf : ∀ f ∈ fs, f.holds) : ∀ (e : SE) (h : Int), sizeHi fs e = some h → (e.den.size : Int) ≤ h
  | .lit b, h, e => by simp only [sizeHi, Option.some.injEq] at e; subst e; exact Int.le_refl _
  | .cat a b, h, e => by
    simp only [sizeHi] at e
    split at e
    · rename_i x y hx hy
      cases e
      have h1 := sizeHi_ok hf a x hx
      have h2 := sizeHi_ok hf b y hy
      simp only [SE.den, ByteArray.size_append]
      omega
    · cases e
  | .v n, h, e => hiF_ok _ _ _ hf e
  | .sub a l k, h, e => hiF_ok _ _ _ hf e
end Go.Proofs.YtdkkblkbonjjgabGreatDoor.Ev
