/- The reckoner: regions that draw their order; frames; what it says of a call is what the call comes to. Conditions: those of each lemma. -/
import Derived.Test.YtjppaamnicknnaaDoorEv4
set_option linter.unusedSectionVars false
namespace Go.Proofs.YtjppaamnicknnaaDoor.Ev
open Go
variable [Env]

section
variable (cx : Cx) (B : Nat) (ih : Runs) (nt : Nat) (L : List Oper) (T : Tr)

def dstOf (j : Nat) : Option Tmp := (L[j]?).bind (·.dst)

/-- The names that those carried out so far have made, and the elder ones. -/
def Vis (In : Nat → Prop) (nm : Nat) : Prop := nm < (T.st 0).next ∨ ∃ j, Loud cx ih nt L T j ∧ In j ∧ (T.st j).next ≤ nm ∧ nm < (T.st (j + 1)).next

/-- The first in chain that has not been carried out. -/
def Top (In : Nat → Prop) (τ : Nat) : Prop := τ ≤ L.length ∧ (τ < L.length → Loud cx ih nt L T τ ∧ T.ch (τ + 1) = true ∧ ¬ In τ) ∧ ∀ j, j < τ → Loud cx ih nt L T j → T.ch (j + 1) = true → In j

/-- What has become of the world since the region began. -/
structure Since (ρ0 : Nm) (w0 : World) (ρ : Nm) (w : World) : Prop where
  sub : Sub ρ0 ρ
  dom : ∀ n, ρ0 n = none → ρ n ≠ none → (T.st 0).next ≤ n ∧ n < (T.st L.length).next
  newb : ∀ n b c, ρ0 n = none → ρ n = some (b, c) → w0.heap.size ≤ b ∨ ∃ m o c', (T.st 0).see m = some o ∧ ρ0 m = some (b, c')
  frame : ∀ b, b < w0.heap.size → (∀ n o c, (T.st 0).see n = some o → ρ0 n ≠ some (b, c)) → w.heap[b]? = w0.heap[b]?
  size : w0.heap.size ≤ w.heap.size
  tape : w.tape = w0.tape
  os : w.os = w0.os
  output : w.output = w0.output
  keep : ∀ n o b c, n < (T.st L.length).minw → n < (T.st 0).next → (T.st 0).see n = some o → ρ0 n = some (b, c) → w.heap[b]? = w0.heap[b]?
  keepw : ∀ n o b c, n ∉ (T.st L.length).wr → n < (T.st 0).next → (T.st 0).see n = some o → ρ0 n = some (b, c) → w.heap[b]? = w0.heap[b]?

structure Inv (ρ0 : Nm) (w0 : World) (In : Nat → Prop) (ρ : Nm) (w : World) (ta : Array Value) : Prop where
  tsize : ta.size = nt
  slots : ∀ t j, In j → dstOf L j = some t → ∃ cv, conc ρ (T.vl j) = some cv ∧ ta[t]? = some cv
  olds : ∀ t sv, (∀ j, In j → dstOf L j ≠ some t) → (T.ts 0).get t = some sv → ∃ cv, conc ρ sv = some cv ∧ ta[t]? = some cv
  objs : ∀ τ, Top cx ih nt L T In τ → ∀ nm o, Vis cx ih nt L T In nm → (T.st τ).see nm = some o → ∃ b c ob, ρ nm = some (b, c) ∧ B ≤ b ∧ w.heap[b]? = some ob ∧ ORel ρ c o ob
  inj : ∀ τ, Top cx ih nt L T In τ → ∀ n m o o' b c c', Vis cx ih nt L T In n → Vis cx ih nt L T In m → (T.st τ).see n = some o → (T.st τ).see m = some o' → ρ n = some (b, c) → ρ m = some (b, c') → n = m
  fresh : ∀ j, Loud cx ih nt L T j → ¬ In j → Fresh ρ (T.st j).next (T.st (j + 1)).next
  old : ∀ b i v, cx.old b i = some v → b < B ∧ w.cell? ⟨b, i, none⟩ = some v
  wsize : B ≤ w.heap.size
  since : Since L T ρ0 w0 ρ w

def Closed (In : Nat → Prop) : Prop := ∀ j, In j → ∀ m, Nat.testBit (anc L j) m = true → In m
end

section
variable {cx : Cx} {B : Nat} {ih : Runs} {nt : Nat} {L : List Oper} {T : Tr} {ρ0 ρ : Nm} {w0 w : World} {In : Nat → Prop} {ta : Array Value}

theorem top_exists (In : Nat → Prop) : ∃ τ, Top cx ih nt L T In τ := by
  by_cases h : ∃ j, j < L.length ∧ Loud cx ih nt L T j ∧ T.ch (j + 1) = true ∧ ¬ In j
  · obtain ⟨m, ⟨h1, h2, h3, h4⟩, h5⟩ := least_exists h
    refine ⟨m, by omega, fun _ => ⟨h2, h3, h4⟩, fun j hj hl hc => ?_⟩
    by_cases hi : In j
    · exact hi
    · exact absurd ⟨by omega, hl, hc, hi⟩ (h5 j hj)
  · refine ⟨L.length, Nat.le_refl _, fun hh => by omega, fun j hj hl hc => ?_⟩
    by_cases hi : In j
    · exact hi
    · exact absurd ⟨j, hj, hl, hc, hi⟩ h

theorem loud_lt {j : Nat} (h : Loud cx ih nt L T j) : j < L.length := by
  obtain ⟨o, ho, _⟩ := h
  exact (List.getElem?_eq_some_iff.1 ho).1

/-- The state that the reckoner gives an operation. -/
def Tr.given (T : Tr) (L : List Oper) (i : Nat) : St := { T.st i with hid := hides (anc L i) (T.rn i) ++ (T.st i).hid, minw := (T.st i).next }

theorem given_see {i nm : Nat} {o : SO} (h : (T.given L i).see nm = some o) : hidden (hides (anc L i) (T.rn i)) nm = false ∧ hidden (T.st i).hid nm = false ∧ (T.st i).heap.get nm = some o := by
  unfold St.see Tr.given at h
  dsimp only at h
  rw [hidden_append] at h
  split at h
  · cases h
  · rename_i hh
    simp only [Bool.or_eq_false_iff] at hh
    exact ⟨hh.1, hh.2, h⟩

theorem see_given {i nm : Nat} {o : SO} (h1 : hidden (hides (anc L i) (T.rn i)) nm = false) (h2 : hidden (T.st i).hid nm = false) (h3 : (T.st i).heap.get nm = some o) : (T.given L i).see nm = some o := by
  unfold St.see Tr.given
  dsimp only
  rw [hidden_append, h1, h2]
  exact h3

theorem see_iff {s : St} {nm : Nat} {o : SO} : s.see nm = some o ↔ hidden s.hid nm = false ∧ s.heap.get nm = some o := by
  unfold St.see
  cases hidden s.hid nm <;> simp

theorem Whole.hid (W : Whole cx ih nt L T) {i : Nat} (hi : i ≤ L.length) : (T.st i).hid = (T.st 0).hid := (W.kp' (Nat.zero_le _) hi).hid

/-- Where the first in chain stands, seen from one that is carried out next. -/
theorem top_ahead (W : Whole cx ih nt L T) {i τ : Nat} (hl : Loud cx ih nt L T i) (hanc : ∀ m, Nat.testBit (anc L i) m = true → In m) (hτ : Top cx ih nt L T In τ) : i ≤ τ := by
  have hlt := loud_lt hl
  by_cases h : i ≤ τ
  · exact h
  · exfalso
    obtain ⟨h1, h2, h3⟩ := hτ.2.1 (by omega)
    have hc : T.ch (i + 1) = true := by
      have := W.chs h2 (i - τ) (by omega)
      rw [show τ + 1 + (i - τ) = i + 1 by omega] at this
      exact this
    exact h3 (hanc _ (W.chain hl hc hlt τ (by omega) h1))

/-- Between them nothing is written. -/
theorem top_still (W : Whole cx ih nt L T) (hC : Closed L In) {i τ : Nat} (hi : ¬ In i) (hτ : Top cx ih nt L T In τ) (hle : i ≤ τ) (hli : Loud cx ih nt L T i) {nm : Nat} (hn : nm < (T.st i).next) : (T.st τ).heap.get nm = (T.st i).heap.get nm := by
  have := W.still hn (τ - i) (by have := hτ.1; omega) (fun j h1 h2 hl => by
    cases hc : T.ch (j + 1)
    · rfl
    · exfalso
      have hj := hτ.2.2 j (by omega) hl hc
      by_cases e : j = i
      · rw [e] at hj; exact hi hj
      · exact hi (hC j hj i (W.chain hl hc (loud_lt hl) i (by omega) hli)))
  rw [show i + (τ - i) = τ by omega] at this
  exact this

theorem raw_lt (W : Whole cx ih nt L T) (hb : ∀ n o, (T.st 0).heap.get n = some o → n < (T.st 0).next) {i nm : Nat} (hi : i ≤ L.length) {o : SO} (h : (T.st i).heap.get nm = some o) : nm < (T.st i).next := by
  have := (W.kp' (Nat.zero_le _) hi).top (fun n hn => by
    cases hr : (T.st 0).heap.get n with
    | none => rfl
    | some o' => have := hb n o' hr; omega) nm
  by_cases hlt : nm < (T.st i).next
  · exact hlt
  · rw [this (by omega)] at h; cases h

/-- What an operation sees is there. -/
theorem given_vis (W : Whole cx ih nt L T) (hb : ∀ n o, (T.st 0).heap.get n = some o → n < (T.st 0).next) {i : Nat} (hl : Loud cx ih nt L T i) (hanc : ∀ m, Nat.testBit (anc L i) m = true → In m) {nm : Nat} {o : SO} (h : (T.given L i).see nm = some o) :
    Vis cx ih nt L T In nm := by
  have hlt := loud_lt hl
  obtain ⟨h1, h2, h3⟩ := given_see h
  have hn := raw_lt W hb (by omega) h3
  by_cases h0 : nm < (T.st 0).next
  · exact .inl h0
  · obtain ⟨j, hj, hlj, hlo, hhi⟩ := W.cover (by omega) i (by omega) hn
    refine .inr ⟨j, hlj, ?_, hlo, hhi⟩
    apply hanc
    cases hb' : Nat.testBit (anc L i) j
    · rw [hides_hidden ((W.mem_rn i (by omega) _).2 ⟨j, hj, hlj, rfl⟩) hb' hlo hhi] at h1
      cases h1
    · rfl

theorem given_top (W : Whole cx ih nt L T) (hb : ∀ n o, (T.st 0).heap.get n = some o → n < (T.st 0).next) (hC : Closed L In) {i τ : Nat} (hl : Loud cx ih nt L T i) (hi : ¬ In i) (hanc : ∀ m, Nat.testBit (anc L i) m = true → In m) (hτ : Top cx ih nt L T In τ)
    {nm : Nat} {o : SO} (h : (T.given L i).see nm = some o) : (T.st τ).see nm = some o := by
  have hlt := loud_lt hl
  obtain ⟨h1, h2, h3⟩ := given_see h
  have hn := raw_lt W hb (by omega) h3
  rw [see_iff, W.hid hτ.1, top_still W hC hi hτ (top_ahead W hl hanc hτ) hl hn]
  exact ⟨by rw [← W.hid (Nat.le_of_lt hlt)]; exact h2, h3⟩

/-- The world as an operation meets it. -/
theorem given_rel (W : Whole cx ih nt L T) (hb : ∀ n o, (T.st 0).heap.get n = some o → n < (T.st 0).next) (hC : Closed L In) (hI : Inv cx B ih nt L T ρ0 w0 In ρ w ta) {i : Nat} (hl : Loud cx ih nt L T i) (hi : ¬ In i) (hanc : ∀ m, Nat.testBit (anc L i) m = true → In m) :
    Rel cx B ρ w (T.given L i) := by
  obtain ⟨τ, hτ⟩ := top_exists (cx := cx) (ih := ih) (nt := nt) (L := L) (T := T) In
  have hlt := loud_lt hl
  refine ⟨fun nm o h => ?_, fun n m o o' b c c' h1 h2 h3 h4 => ?_, fun nm o h => raw_lt W hb (by omega) h, hI.old, hI.wsize⟩
  · exact hI.objs τ hτ nm o (given_vis W hb hl hanc h) (given_top W hb hC hl hi hanc hτ h)
  · exact hI.inj τ hτ n m o o' b c c' (given_vis W hb hl hanc h1) (given_vis W hb hl hanc h2) (given_top W hb hC hl hi hanc hτ h1) (given_top W hb hC hl hi hanc hτ h2) h3 h4
end
end Go.Proofs.YtjppaamnicknnaaDoor.Ev

namespace Go.Proofs.YtjppaamnicknnaaDoor.Ev
open Go
variable [Env]

section
variable {cx : Cx} {B : Nat} {ih : Runs} {nt : Nat} {L : List Oper} {T : Tr} {ρ0 ρ ρ' : Nm} {w0 w w' : World} {In : Nat → Prop} {ta : Array Value}

/-- One more has been carried out. -/
def And1 (In : Nat → Prop) (i : Nat) : Nat → Prop := fun j => In j ∨ j = i

/-- The slots behind an operation. -/
theorem inv_slots (hd : ∀ j k t, j ≠ k → dstOf L j = some t → dstOf L k ≠ some t) {i : Nat} {o : Oper} (ho : L[i]? = some o) {cv : Value} (hts : ta.size = nt) (hp : ∃ t1, putT nt (T.ts i) o.dst (T.vl i) = some t1) (hv : conc ρ' (T.vl i) = some cv) (hs : Sub ρ ρ')
    (h1 : ∀ t j, In j → dstOf L j = some t → ∃ cv, conc ρ (T.vl j) = some cv ∧ ta[t]? = some cv) (h2 : ∀ t sv, (∀ j, In j → dstOf L j ≠ some t) → (T.ts 0).get t = some sv → ∃ cv, conc ρ sv = some cv ∧ ta[t]? = some cv) (hi : ¬ In i) :
    (putA ta o.dst cv).size = nt ∧ (∀ t j, And1 In i j → dstOf L j = some t → ∃ cv', conc ρ' (T.vl j) = some cv' ∧ (putA ta o.dst cv)[t]? = some cv') ∧
      (∀ t sv, (∀ j, And1 In i j → dstOf L j ≠ some t) → (T.ts 0).get t = some sv → ∃ cv', conc ρ' sv = some cv' ∧ (putA ta o.dst cv)[t]? = some cv') := by
  have hdi : dstOf L i = o.dst := by simp [dstOf, ho]
  have hget : ∀ t, o.dst ≠ some t → (putA ta o.dst cv)[t]? = ta[t]? := by
    intro t ht
    cases hdst : o.dst with
    | none => rfl
    | some d =>
      have : d ≠ t := fun e => ht (by rw [hdst, e])
      simp [putA, this]
  refine ⟨?_, ?_, ?_⟩
  · cases o.dst <;> simp [putA, hts]
  · intro t j hj hdj
    by_cases e : j = i
    · subst e
      rw [hdi] at hdj
      obtain ⟨t1, hp⟩ := hp
      rw [hdj] at hp ⊢
      simp only [putT] at hp
      split at hp
      · rename_i hlt
        have := blt_lt hlt
        exact ⟨cv, hv, by simp [putA, hts, this]⟩
      · cases hp
    · rcases hj with hj | hj
      · obtain ⟨cv', g1, g2⟩ := h1 t j hj hdj
        exact ⟨cv', conc_mono hs _ _ g1, by rw [hget t (by rw [← hdi]; exact hd j i t e hdj)]; exact g2⟩
      · exact absurd hj e
  · intro t sv hno hsv
    obtain ⟨cv', g1, g2⟩ := h2 t sv (fun j hj => hno j (.inl hj)) hsv
    exact ⟨cv', conc_mono hs _ _ g1, by rw [hget t (by rw [← hdi]; exact hno i (.inr rfl))]; exact g2⟩

theorem old_same (h : ∀ b i v, cx.old b i = some v → b < B ∧ w.cell? ⟨b, i, none⟩ = some v) (hB : B ≤ w.heap.size) (hf : ∀ b, b < w.heap.size → w'.heap[b]? = w.heap[b]?) :
    ∀ b i v, cx.old b i = some v → b < B ∧ w'.cell? ⟨b, i, none⟩ = some v := fun b i v e =>
  ⟨(h b i v e).1, by rw [cell_of_heap (w := w) (hf b (by have := (h b i v e).1; omega))]; exact (h b i v e).2⟩

/-- One that looks at no memory, or is passed over. -/
theorem inv_still (hR0 : Rel cx B ρ0 w0 (T.st 0)) (hI : Inv cx B ih nt L T ρ0 w0 In ρ w ta) {i : Nat} (hnl : ¬ Loud cx ih nt L T i) {ta' : Array Value}
    (hta : ta'.size = nt ∧ (∀ t j, And1 In i j → dstOf L j = some t → ∃ cv', conc ρ (T.vl j) = some cv' ∧ ta'[t]? = some cv') ∧ (∀ t sv, (∀ j, And1 In i j → dstOf L j ≠ some t) → (T.ts 0).get t = some sv → ∃ cv', conc ρ sv = some cv' ∧ ta'[t]? = some cv'))
    (hs : w.heap.size ≤ w'.heap.size) (hf : ∀ b, b < w.heap.size → w'.heap[b]? = w.heap[b]?) (h1 : w'.tape = w.tape) (h2 : w'.os = w.os) (h3 : w'.output = w.output) : Inv cx B ih nt L T ρ0 w0 (And1 In i) ρ w' ta' := by
  have top : ∀ {τ}, Top cx ih nt L T (And1 In i) τ → Top cx ih nt L T In τ := fun {τ} hτ => ⟨hτ.1, fun hlt => ⟨(hτ.2.1 hlt).1, (hτ.2.1 hlt).2.1, fun hh => (hτ.2.1 hlt).2.2 (.inl hh)⟩, fun j hj hl hc => by
    rcases hτ.2.2 j hj hl hc with h | rfl
    · exact h
    · exact absurd hl hnl⟩
  have vis : ∀ {nm}, Vis cx ih nt L T (And1 In i) nm → Vis cx ih nt L T In nm := fun {nm} hv => by
    rcases hv with h | ⟨j, hl, hj, h⟩
    · exact .inl h
    · rcases hj with hj | rfl
      · exact .inr ⟨j, hl, hj, h⟩
      · exact absurd hl hnl
  refine ⟨hta.1, hta.2.1, hta.2.2, fun τ hτ nm o hv ho => ?_, fun τ hτ n m o o' b c c' g1 g2 g3 g4 g5 g6 => hI.inj τ (top hτ) n m o o' b c c' (vis g1) (vis g2) g3 g4 g5 g6, fun j hl hj => hI.fresh j hl (fun hh => hj (.inl hh)), old_same hI.old hI.wsize hf, Nat.le_trans hI.wsize hs, ?_⟩
  · obtain ⟨b, c, ob, e1, e2, e3, e4⟩ := hI.objs τ (top hτ) nm o (vis hv) ho
    exact ⟨b, c, ob, e1, e2, by rw [hf b (heap_lt e3)]; exact e3, e4⟩
  · have S := hI.since
    refine ⟨S.sub, S.dom, S.newb, fun b hb hno => by rw [hf b (by have := S.size; omega), S.frame b hb hno], Nat.le_trans S.size hs, h1.trans S.tape, h2.trans S.os, h3.trans S.output, fun n o b c g1 g2 g3 g4 => ?_, fun n o b c g1 g2 g3 g4 => ?_⟩
    · have := S.keep n o b c g1 g2 g3 g4
      obtain ⟨b', c', ob, e1, _, e3, _⟩ := hR0.obj n o g3
      rw [g4] at e1
      cases e1
      rw [hf b (Nat.lt_of_lt_of_le (heap_lt e3) S.size), this]
    · have := S.keepw n o b c g1 g2 g3 g4
      obtain ⟨b', c', ob, e1, _, e3, _⟩ := hR0.obj n o g3
      rw [g4] at e1
      cases e1
      rw [hf b (Nat.lt_of_lt_of_le (heap_lt e3) S.size), this]

/-- One that looks at memory. -/
theorem inv_loud (W : Whole cx ih nt L T) (hb : ∀ n o, (T.st 0).heap.get n = some o → n < (T.st 0).next) (hf0 : Fresh ρ0 (T.st 0).next (T.st L.length).next) (hC : Closed L In) (hI : Inv cx B ih nt L T ρ0 w0 In ρ w ta) {i : Nat} {o : Oper} (ho : L[i]? = some o)
    (hl : Loud cx ih nt L T i) (hi : ¬ In i) (hanc : ∀ m, Nat.testBit (anc L i) m = true → In m) {ta' : Array Value}
    (hta : ta'.size = nt ∧ (∀ t j, And1 In i j → dstOf L j = some t → ∃ cv', conc ρ' (T.vl j) = some cv' ∧ ta'[t]? = some cv') ∧ (∀ t sv, (∀ j, And1 In i j → dstOf L j ≠ some t) → (T.ts 0).get t = some sv → ∃ cv', conc ρ' sv = some cv' ∧ ta'[t]? = some cv'))
    {s' : St} (hst : T.st (i + 1) = { s' with hid := (T.st i).hid, minw := Nat.min (T.st i).minw s'.minw }) (hch : T.ch (i + 1) = false → (T.st i).next ≤ s'.minw) (hR : Rel cx B ρ' w' s') (hE : Ext (T.given L i) s' ρ ρ' w w') : Inv cx B ih nt L T ρ0 w0 (And1 In i) ρ' w' ta' := by
  have hlt := loud_lt hl
  have hsn : (T.st (i + 1)).next = s'.next := by rw [hst]
  have hsh : (T.st (i + 1)).heap = s'.heap := by rw [hst]
  have hhid : s'.hid = hides (anc L i) (T.rn i) ++ (T.st i).hid := hE.hid
  have hidI : (T.st i).hid = (T.st 0).hid := W.hid (by omega)
  -- what the operation's own state sees behind it
  have see' : ∀ {τ nm : Nat} {x : SO}, τ ≤ L.length → i + 1 ≤ τ → (∀ j, i + 1 ≤ j → j < τ → Loud cx ih nt L T j → T.ch (j + 1) = false) → nm < (T.st (i + 1)).next → hidden (hides (anc L i) (T.rn i)) nm = false → (T.st τ).see nm = some x → s'.see nm = some x := by
    intro τ nm x hτ hle hq hn hh hx
    obtain ⟨x1, x2⟩ := see_iff.1 hx
    have hs := W.still hn (τ - (i + 1)) (by omega) (fun j a b c => hq j a (by omega) c)
    rw [show i + 1 + (τ - (i + 1)) = τ by omega, x2] at hs
    rw [see_iff, hhid, hidden_append, hh, hidI, ← W.hid hτ, x1, ← hsh]
    exact ⟨rfl, hs.symm⟩
  have hidr : ∀ {nm}, (T.st i).next ≤ nm → hidden (hides (anc L i) (T.rn i)) nm = false := by
    intro nm hn
    cases hh : hidden (hides (anc L i) (T.rn i)) nm
    · rfl
    · exfalso
      obtain ⟨j, lo, hi', hm, _, h1, h2⟩ := hidden_hides hh
      obtain ⟨j', hj', _, e⟩ := (W.mem_rn i (by omega) _).1 hm
      cases e
      have := (W.kp' (i := j + 1) (j := i) (by omega) (by omega)).le
      omega
  have S := hI.since
  -- what is seen of the names of before the region
  have back : ∀ {m : Nat} {x : SO}, (T.given L i).see m = some x → ρ0 m ≠ none → ∃ x', (T.st 0).see m = some x' := by
    intro m x hm h0
    obtain ⟨h1, h2, h3⟩ := given_see hm
    have hn := raw_lt W hb (by omega) h3
    have hle := (W.kp' (i := i) (j := L.length) (by omega) (Nat.le_refl _)).le
    have h0' : m < (T.st 0).next := by
      by_cases hh : m < (T.st 0).next
      · exact hh
      · exact absurd (hf0 m (by omega) (by omega)) h0
    cases hr : (T.st 0).heap.get m with
    | none => rw [(W.kp' (Nat.zero_le i) (by omega)).dead m h0' hr] at h3; cases h3
    | some x' => exact ⟨x', see_iff.2 ⟨by rw [← hidI]; exact h2, hr⟩⟩
  have back2 : ∀ {m : Nat} {x : SO} {b c : Nat}, (T.given L i).see m = some x → ρ m = some (b, c) → w0.heap.size ≤ b ∨ ∃ m' o' c', (T.st 0).see m' = some o' ∧ ρ0 m' = some (b, c') := by
    intro m x b c hm hr
    cases h0 : ρ0 m with
    | none => exact S.newb m b c h0 hr
    | some p =>
      have := S.sub m p h0
      rw [hr] at this
      cases this
      obtain ⟨x', hx'⟩ := back hm (by simp [h0])
      exact .inr ⟨m, x', c, hx', h0⟩
  have hfr : ∀ j, Loud cx ih nt L T j → ¬ And1 In i j → Fresh ρ' (T.st j).next (T.st (j + 1)).next := by
    intro j hlj hj n h1 h2
    have hne : j ≠ i := fun e => hj (.inr e)
    have h0 := hI.fresh j hlj (fun hh => hj (.inl hh)) n h1 h2
    cases hr : ρ' n with
    | none => rfl
    | some p =>
      exfalso
      obtain ⟨g1, g2⟩ := hE.dom n h0 (by simp [hr])
      have g1 : (T.st i).next ≤ n := g1
      rw [← hsn] at g2
      have hjl := loud_lt hlj
      by_cases hji : j < i
      · have := (W.kp' (i := j + 1) (j := i) (by omega) (by omega)).le
        omega
      · have := (W.kp' (i := i + 1) (j := j) (by omega) (by omega)).le
        omega
  have hsince : Since L T ρ0 w0 ρ' w' := by
    refine ⟨S.sub.trans hE.sub, fun n h0 h1 => ?_, fun n b c h0 h1 => ?_, fun b hb0 hno => ?_, Nat.le_trans S.size hE.size, hE.tape.trans S.tape, hE.os.trans S.os, hE.output.trans S.output, fun n x b c h1 h2 h3 h4 => ?_, fun n x b c h1 h2 h3 h4 => ?_⟩
    · cases hr : ρ n with
      | none =>
        obtain ⟨g1, g2⟩ := hE.dom n hr h1
        have g1 : (T.st i).next ≤ n := g1
        rw [← hsn] at g2
        have a1 := (W.kp' (Nat.zero_le i) (by omega)).le
        have a2 := (W.kp' (i := i + 1) (j := L.length) (by omega) (Nat.le_refl _)).le
        omega
      | some p => exact S.dom n h0 (by simp [hr])
    · cases hr : ρ n with
      | none =>
        rcases hE.newb n b c hr h1 with h2 | ⟨m, x, c', hm, hb'⟩
        · exact .inl (Nat.le_trans S.size h2)
        · exact back2 hm hb'
      | some p =>
        have := hE.sub n p hr
        rw [h1] at this
        cases this
        exact S.newb n b c h0 hr
    · rw [hE.frame b (Nat.lt_of_lt_of_le hb0 S.size) ?_, S.frame b hb0 hno]
      intro m x c hm hb'
      rcases back2 hm hb' with h | ⟨m', o', c', h1, h2⟩
      · omega
      · exact hno m' o' c' h1 h2
    · have hS := S.keep n x b c h1 h2 h3 h4
      have m1 : (T.st L.length).minw ≤ (T.st (i + 1)).minw := (W.kp' (i := i + 1) (j := L.length) (by omega) (Nat.le_refl _)).minw
      have m2 : (T.st (i + 1)).minw ≤ s'.minw := by rw [hst]; exact Nat.min_le_right _ _
      have m3 : (T.st L.length).minw ≤ (T.st i).minw := (W.kp' (i := i) (j := L.length) (by omega) (Nat.le_refl _)).minw
      obtain ⟨y1, y2⟩ := see_iff.1 h3
      have k0 := W.kp' (Nat.zero_le i) (by omega)
      have hraw := k0.keep n h2 (by omega)
      rw [y2] at hraw
      have hlo := k0.le
      have hg : (T.given L i).see n = some x := see_given (by
        cases hh : hidden (hides (anc L i) (T.rn i)) n
        · rfl
        · exfalso
          obtain ⟨j, lo, hi', hm, _, q1, q2⟩ := hidden_hides hh
          obtain ⟨j', hj', _, e⟩ := (W.mem_rn i (by omega) _).1 hm
          cases e
          have := (W.kp' (Nat.zero_le j) (by omega)).le
          omega) (by rw [hidI]; exact y1) hraw
      have := (hE.keep n (by omega) (by show n < (T.st i).next; omega)).2 x b c hg (S.sub _ _ h4)
      rw [this, hS]
    · have hS := S.keepw n x b c h1 h2 h3 h4
      have m1 : n ∉ (T.st (i + 1)).wr := fun hh => h1 ((W.kp' (i := i + 1) (j := L.length) (by omega) (Nat.le_refl _)).wr n hh)
      have m2 : n ∉ s'.wr := by rw [hst] at m1; exact m1
      have m3 : n ∉ (T.st i).wr := fun hh => h1 ((W.kp' (i := i) (j := L.length) (by omega) (Nat.le_refl _)).wr n hh)
      obtain ⟨y1, y2⟩ := see_iff.1 h3
      have k0 := W.kp' (Nat.zero_le i) (by omega)
      have hraw := k0.keepw n h2 m3
      rw [y2] at hraw
      have hlo := k0.le
      have hg : (T.given L i).see n = some x := see_given (by
        cases hh : hidden (hides (anc L i) (T.rn i)) n
        · rfl
        · exfalso
          obtain ⟨j, lo, hi', hm, _, q1, q2⟩ := hidden_hides hh
          obtain ⟨j', hj', _, e⟩ := (W.mem_rn i (by omega) _).1 hm
          cases e
          have := (W.kp' (Nat.zero_le j) (by omega)).le
          omega) (by rw [hidI]; exact y1) hraw
      have := (hE.keepw n m2 (by show n < (T.st i).next; omega)).2 x b c hg (S.sub _ _ h4)
      rw [this, hS]
  have hrange : ∀ {nm}, nm < (T.st i).next → nm < (T.st (i + 1)).next := fun {nm} h => Nat.lt_of_lt_of_le h (W.kp1 hlt).le
  by_cases hc : T.ch (i + 1) = true
  · -- in chain: all that was made so far is seen
    have hall : ∀ j, j < i → Loud cx ih nt L T j → Nat.testBit (anc L i) j = true := W.chain hl hc hlt
    have hhid0 : ∀ nm, hidden (hides (anc L i) (T.rn i)) nm = false := by
      intro nm
      cases hh : hidden (hides (anc L i) (T.rn i)) nm
      · rfl
      · exfalso
        obtain ⟨j, lo, hi', hm, hb', _⟩ := hidden_hides hh
        obtain ⟨j', hj', hlj, e⟩ := (W.mem_rn i (by omega) _).1 hm
        cases e
        rw [hall j hj' hlj] at hb'
        cases hb'
    have hbefore : ∀ j, Loud cx ih nt L T j → In j → j < i := by
      intro j hlj hj
      by_cases h : j < i
      · exact h
      · exfalso
        have hne : j ≠ i := fun e => hi (by rw [← e]; exact hj)
        have hcj : T.ch (j + 1) = true := by
          have := W.chs hc (j - i) (by have := loud_lt hlj; omega)
          rw [show i + 1 + (j - i) = j + 1 by omega] at this
          exact this
        exact hi (hC j hj i (W.chain hlj hcj (loud_lt hlj) i (by omega) hl))
    have key : ∀ {τ nm : Nat} {x : SO}, Top cx ih nt L T (And1 In i) τ → Vis cx ih nt L T (And1 In i) nm → (T.st τ).see nm = some x → s'.see nm = some x := by
      intro τ nm x hτ hv hx
      have hle : i + 1 ≤ τ := by
        by_cases h : i + 1 ≤ τ
        · exact h
        · exfalso
          obtain ⟨h1, _, h3⟩ := hτ.2.1 (by omega)
          have hne : τ ≠ i := fun e => h3 (.inr e)
          exact h3 (.inl (hanc τ (hall τ (by omega) h1)))
      refine see' hτ.1 hle ?_ ?_ (hhid0 nm) hx
      · intro j a b hlj
        exfalso
        have hcj : T.ch (j + 1) = true := by
          have := W.chs hc (j - i) (by have := loud_lt hlj; omega)
          rw [show i + 1 + (j - i) = j + 1 by omega] at this
          exact this
        rcases hτ.2.2 j b hlj hcj with h | h
        · have := hbefore j hlj h; omega
        · omega
      · rcases hv with h | ⟨j, hlj, hj, _, h⟩
        · exact hrange (Nat.lt_of_lt_of_le h (W.kp' (Nat.zero_le i) (by omega)).le)
        · rcases hj with hj | rfl
          · have := hbefore j hlj hj
            exact hrange (Nat.lt_of_lt_of_le h (W.kp' (i := j + 1) (j := i) (by omega) (by omega)).le)
          · exact h
    exact ⟨hta.1, hta.2.1, hta.2.2, fun τ hτ nm x hv hx => hR.obj nm x (key hτ hv hx), fun τ hτ n m x x' b c c' h1 h2 h3 h4 h5 h6 => hR.inj n m x x' b c c' (key hτ h1 h3) (key hτ h2 h4) h5 h6, hfr, hR.old, hR.size, hsince⟩
  · -- nothing has been written
    have hcf : T.ch (i + 1) = false := by
      cases h : T.ch (i + 1)
      · rfl
      · exact absurd h hc
    have hmw := hch hcf
    have topI : ∀ {τ}, Top cx ih nt L T (And1 In i) τ → Top cx ih nt L T In τ := fun {τ} hτ => ⟨hτ.1, fun h => ⟨(hτ.2.1 h).1, (hτ.2.1 h).2.1, fun hh => (hτ.2.1 h).2.2 (.inl hh)⟩, fun j hj hlj hcj => by
      rcases hτ.2.2 j hj hlj hcj with h | rfl
      · exact h
      · rw [hcf] at hcj; cases hcj⟩
    have hle : ∀ {τ}, Top cx ih nt L T (And1 In i) τ → i + 1 ≤ τ := by
      intro τ hτ
      have h1 := top_ahead W hl hanc (topI hτ)
      by_cases h : τ = i
      · exfalso
        have := (hτ.2.1 (by omega)).2.1
        rw [h, hcf] at this
        cases this
      · omega
    have hquiet : ∀ {τ}, Top cx ih nt L T (And1 In i) τ → ∀ j, i + 1 ≤ j → j < τ → Loud cx ih nt L T j → T.ch (j + 1) = false := by
      intro τ hτ j a b hlj
      cases hcj : T.ch (j + 1)
      · rfl
      · exfalso
        have hj := (topI hτ).2.2 j b hlj hcj
        exact hi (hC j hj i (W.chain hlj hcj (loud_lt hlj) i (by omega) hl))
    -- a name of the operation's own, or one that was there
    have key : ∀ {τ nm : Nat} {x : SO}, Top cx ih nt L T (And1 In i) τ → Vis cx ih nt L T (And1 In i) nm → (T.st τ).see nm = some x → (s'.see nm = some x ∧ (T.st i).next ≤ nm ∧ nm < s'.next) ∨ Vis cx ih nt L T In nm := by
      intro τ nm x hτ hv hx
      rcases hv with h | ⟨j, hlj, hj, h1, h2⟩
      · exact .inr (.inl h)
      · rcases hj with hj | rfl
        · exact .inr (.inr ⟨j, hlj, hj, h1, h2⟩)
        · exact .inl ⟨see' hτ.1 (hle hτ) (hquiet hτ) h2 (hidr h1) hx, h1, by rw [← hsn]; exact h2⟩
    have same : ∀ {τ nm : Nat} {x : SO} {b c : Nat}, Top cx ih nt L T (And1 In i) τ → Vis cx ih nt L T In nm → (T.st τ).see nm = some x → ρ nm = some (b, c) → b < w.heap.size → w'.heap[b]? = w.heap[b]? := by
      intro τ nm x b c hτ hv hx hr hb'
      by_cases hg : ∃ y, (T.given L i).see nm = some y
      · obtain ⟨y, hy⟩ := hg
        have hn := raw_lt W hb (by omega) (given_see hy).2.2
        exact (hE.keep nm (by omega) hn).2 y b c hy hr
      · refine hE.frame b hb' (fun m y c' hm hrm => hg ⟨y, ?_⟩)
        have := hI.inj τ (topI hτ) m nm y x b c' c (given_vis W hb hl hanc hm) hv (given_top W hb hC hl hi hanc (topI hτ) hm) hx hrm hr
        rw [← this]
        exact hm
    refine ⟨hta.1, hta.2.1, hta.2.2, fun τ hτ nm x hv hx => ?_, fun τ hτ n m x x' b c c' h1 h2 h3 h4 h5 h6 => ?_, hfr, hR.old, hR.size, hsince⟩
    · rcases key hτ hv hx with ⟨h, _⟩ | hv'
      · exact hR.obj nm x h
      · obtain ⟨b, c, ob, e1, e2, e3, e4⟩ := hI.objs τ (topI hτ) nm x hv' hx
        exact ⟨b, c, ob, hE.sub _ _ e1, e2, by rw [same hτ hv' hx e1 (heap_lt e3)]; exact e3, e4.mono hE.sub⟩
    · have elder : ∀ {n : Nat} {x : SO} {b c : Nat}, Vis cx ih nt L T In n → (T.st τ).see n = some x → ρ' n = some (b, c) → ρ n = some (b, c) ∧ b < w.heap.size := by
        intro n x b c hv hx hr
        obtain ⟨b0, c0, ob, e1, e2, e3, e4⟩ := hI.objs τ (topI hτ) n x hv hx
        have := hE.sub _ _ e1
        rw [hr] at this
        cases this
        exact ⟨e1, heap_lt e3⟩
      have mixed : ∀ {n m : Nat} {x x' : SO} {b c c' : Nat}, (s'.see n = some x ∧ (T.st i).next ≤ n ∧ n < s'.next) → Vis cx ih nt L T In m → (T.st τ).see m = some x' → ρ' n = some (b, c) → ρ' m = some (b, c') → n = m := by
        intro n m x x' b c c' hn hv hx h5 h6
        obtain ⟨g1, g2⟩ := elder hv hx h6
        by_cases hg : ∃ y, (T.given L i).see m = some y
        · obtain ⟨y, hy⟩ := hg
          have hm := raw_lt W hb (by omega) (given_see hy).2.2
          have hs := (hE.keep m (by omega) hm).1
          exact hR.inj n m x y b c c' hn.1 (by rw [hs]; exact hy) h5 h6
        · exfalso
          have hrn : ρ n = none := hI.fresh i hl hi n hn.2.1 (by rw [hsn]; exact hn.2.2)
          rcases hE.newb n b c hrn h5 with h | ⟨m2, y, c2, hm2, hr2⟩
          · omega
          · have := hI.inj τ (topI hτ) m2 m y x' b c2 c' (given_vis W hb hl hanc hm2) hv (given_top W hb hC hl hi hanc (topI hτ) hm2) hx hr2 g1
            exact hg ⟨y, by rw [← this]; exact hm2⟩
      rcases key hτ h1 h3 with hn | hn <;> rcases key hτ h2 h4 with hm | hm
      · exact hR.inj n m x x' b c c' hn.1 hm.1 h5 h6
      · exact mixed hn hm h4 h5 h6
      · exact (mixed hm hn h3 h6 h5).symm
      · exact hI.inj τ (topI hτ) n m x x' b c c' hn hm h3 h4 (elder hn h3 h5).1 (elder hm h4 h6).1
end
end Go.Proofs.YtjppaamnicknnaaDoor.Ev

namespace Go.Proofs.YtjppaamnicknnaaDoor.Ev
open Go
variable [Env]

theorem bool_false : ∀ {b : Bool}, (b = true → False) → b = false
  | true, h => (h rfl).elim
  | false, _ => rfl

theorem fitsAhead_mem {a : Nat} {dst : Option Tmp} {lk : List Tmp} : ∀ {acc : List (Nat × Option Tmp × List Tmp)}, fitsAhead a dst lk acc = true → ∀ j dj lj, (j, dj, lj) ∈ acc → (∀ t, dst = some t → dj ≠ some t) ∧ ((dstIn dj lk || dstIn dst lj) = true → Nat.testBit a j = true)
  | [], _, j, dj, lj, hm => by simp at hm
  | (i, di, li) :: rest, h, j, dj, lj, hm => by
    simp only [fitsAhead] at h
    split at h
    · cases h
    · cases h
    · rename_i h1 h2
      rcases List.mem_cons.1 hm with hm | hm
      · cases hm
        refine ⟨fun t ht hd => ?_, fun hb => ?_⟩
        · subst ht; subst hd
          apply h1
          simp [dstIn]
        · cases hbit : Nat.testBit a i
          · exfalso
            exact h2 (bool_false h1) hb hbit
          · rfl
      · exact fitsAhead_mem h j dj lj hm

structure Fits (L : List Oper) : Prop where
  back : ∀ (k : Nat) (o : Oper), L[k]? = some o → ∀ e ∈ o.after.toList, Region.binds .any e = true → e.on < k
  apart : ∀ (j k : Nat) (oj ok : Oper) (t : Tmp), j < k → L[j]? = some oj → L[k]? = some ok → ok.dst = some t → oj.dst ≠ some t
  sees : ∀ (j k : Nat) (oj ok : Oper), j < k → L[j]? = some oj → L[k]? = some ok → (dstIn oj.dst (looks L ok) || dstIn ok.dst (looks L oj)) = true → Nat.testBit (anc L k) j = true

theorem fits_spec {L : List Oper} : ∀ (l : List (Oper × Nat)) (i : Nat) (acc : List (Nat × Option Tmp × List Tmp)), (∀ j, l[j]? = (L.zip (ancs L))[i + j]?) → (∀ j o, j < i → L[j]? = some o → (j, o.dst, looks L o) ∈ acc) → regionFits L l i acc = true →
    ∀ k o, i ≤ k → L[k]? = some o → (∀ e ∈ o.after.toList, Region.binds .any e = true → e.on < k) ∧ ∀ j oj, j < k → L[j]? = some oj → (∀ t, o.dst = some t → oj.dst ≠ some t) ∧ ((dstIn oj.dst (looks L o) || dstIn o.dst (looks L oj)) = true → Nat.testBit (anc L k) j = true)
  | [], i, acc, hl, _, _, k, o, hk, ho => by
    exfalso
    have h1 := hl (k - i)
    rw [show i + (k - i) = k by omega] at h1
    have hlt := (List.getElem?_eq_some_iff.1 ho).1
    have : k < (L.zip (ancs L)).length := by rw [List.length_zip, ancs_length]; omega
    rw [List.getElem?_eq_getElem this] at h1
    simp at h1
  | (o0, a0) :: l, i, acc, hl, hacc, h, k, o, hk, ho => by
    have h0 := hl 0
    simp only [List.getElem?_cons_zero, Nat.add_zero] at h0
    have h0' := List.getElem?_zip_eq_some.1 h0.symm
    have ha0 : anc L i = a0 := by unfold anc; rw [h0'.2]; rfl
    simp only [regionFits] at h
    split at h
    · rename_i he hf
      by_cases e : k = i
      · subst e
        rw [h0'.1] at ho
        cases ho
        refine ⟨fun e hm hb => ?_, fun j oj hj hoj => ?_⟩
        · have := List.all_eq_true.1 he e hm
          rw [hb] at this
          exact blt_lt this
        · have := fitsAhead_mem hf j _ _ (hacc j oj hj hoj)
          rw [ha0]
          exact this
      · refine fits_spec l (i + 1) _ (fun j => ?_) (fun j o' hj ho' => ?_) h k o (by omega) ho
        · have := hl (j + 1)
          rw [show i + 1 + j = i + (j + 1) by omega, ← this]
          rfl
        · by_cases e : j = i
          · subst e
            rw [h0'.1] at ho'
            cases ho'
            exact List.mem_cons_self ..
          · exact List.mem_cons_of_mem _ (hacc j o' (by omega) ho')
    · cases h

theorem fits_of {L : List Oper} (h : regionFits L (L.zip (ancs L)) 0 [] = true) : Fits L := by
  have := fits_spec (L := L) _ 0 [] (fun j => by simp) (fun j o hj => by omega) h
  exact ⟨fun k o ho => (this k o (by omega) ho).1, fun j k oj ok t hj hoj hok => ((this k ok (by omega) hok).2 j oj hj hoj).1 t, fun j k oj ok hj hoj hok => ((this k ok (by omega) hok).2 j oj hj hoj).2⟩

theorem dstIn_mem {t : Tmp} {l : List Tmp} (h : t ∈ l) : dstIn (some t) l = true := by
  simp only [dstIn, List.any_eq_true]
  exact ⟨t, h, Nat.beq_refl t⟩

section
variable {cx : Cx} {B : Nat} {ih : Runs} {nt : Nat} {L : List Oper} {T : Tr} {ρ0 ρ : Nm} {w0 w : World} {In : Nat → Prop} {ta : Array Value}

theorem Whole.put (W : Whole cx ih nt L T) {i : Nat} {o : Oper} (ho : L[i]? = some o) : putT nt (T.ts i) o.dst (T.vl i) = some (T.ts (i + 1)) := by
  rcases W.step i o ho with ⟨_, _, _, h, _⟩ | ⟨_, _, h, _⟩ | ⟨_, s', _, _, _, h, _⟩ | ⟨_, _, h, _⟩
  · exact h
  · exact h
  · exact h
  · exact h

theorem ts_get (W : Whole cx ih nt L T) (t : Tmp) : ∀ i, i ≤ L.length → (∃ j, j < i ∧ dstOf L j = some t ∧ (T.ts i).get t = some (T.vl j)) ∨ ((∀ j, j < i → dstOf L j ≠ some t) ∧ (T.ts i).get t = (T.ts 0).get t)
  | 0, _ => .inr ⟨fun j hj => by omega, rfl⟩
  | i + 1, hi => by
    have ho : L[i]? = some L[i] := List.getElem?_eq_getElem (by omega)
    have hp := W.put ho
    have hd : dstOf L i = L[i].dst := by simp [dstOf, ho]
    by_cases e : dstOf L i = some t
    · refine .inl ⟨i, by omega, e, ?_⟩
      rw [hd] at e
      rw [e] at hp
      simp only [putT] at hp
      split at hp
      · rw [← Option.some.inj hp, Ev.T.get_put]
        simp
      · cases hp
    · have hs : (T.ts (i + 1)).get t = (T.ts i).get t := by
        unfold putT at hp
        split at hp
        · rename_i d hdd
          split at hp
          · rw [← Option.some.inj hp, Ev.T.get_put]
            rw [if_neg]
            intro h
            apply e
            rw [hd, hdd, h]
          · cases hp
        · rw [← Option.some.inj hp]
      rcases ts_get W t i (by omega) with ⟨j, hj, h1, h2⟩ | ⟨h1, h2⟩
      · exact .inl ⟨j, by omega, h1, by rw [hs]; exact h2⟩
      · refine .inr ⟨fun j hj => ?_, by rw [hs]; exact h2⟩
        by_cases e' : j = i
        · rw [e']; exact e
        · exact h1 j (by omega)

theorem dst_apart (F : Fits L) : ∀ j k t, j ≠ k → dstOf L j = some t → dstOf L k ≠ some t := by
  intro j k t hne hj hk
  simp only [dstOf, Option.bind_eq_some_iff] at hj hk
  obtain ⟨oj, h1, h2⟩ := hj
  obtain ⟨ok, h3, h4⟩ := hk
  rcases Nat.lt_or_gt_of_ne hne with h | h
  · exact F.apart j k oj ok t h h1 h3 h4 h2
  · exact F.apart k j ok oj t h h3 h1 h2 h4

/-- A slot that an operation looks at. -/
theorem slot_ok (W : Whole cx ih nt L T) (F : Fits L) (hC : Closed L In) (hI : Inv cx B ih nt L T ρ0 w0 In ρ w ta) {i : Nat} {o : Oper} (ho : L[i]? = some o) (hi : ¬ In i) (hanc : ∀ m, Nat.testBit (anc L i) m = true → In m) {t : Tmp} (ht : t ∈ looks L o) {sv : SV}
    (h : (T.ts i).get t = some sv) : ∃ cv, conc ρ sv = some cv ∧ ta[t]? = some cv := by
  have hlt := (List.getElem?_eq_some_iff.1 ho).1
  rcases ts_get W t i (by omega) with ⟨j, hj, h1, h2⟩ | ⟨h1, h2⟩
  · rw [h2] at h
    cases h
    have hd := h1
    simp only [dstOf, Option.bind_eq_some_iff] at hd
    obtain ⟨oj, hoj, hdj⟩ := hd
    have := F.sees j i oj o hj hoj ho (by rw [hdj, dstIn_mem ht]; rfl)
    exact hI.slots t j (hanc j this) h1
  · rw [h2] at h
    refine hI.olds t sv (fun j hj hd => ?_) h
    by_cases hji : j < i
    · exact h1 j hji hd
    · have hne : j ≠ i := fun e => hi (by rw [← e]; exact hj)
      simp only [dstOf, Option.bind_eq_some_iff] at hd
      obtain ⟨oj, hoj, hdj⟩ := hd
      have := F.sees i j o oj (by omega) ho hoj (by rw [hdj, dstIn_mem ht]; simp)
      exact hi (hC j hj i this)

theorem wanted_slot {ops : Array Oper} {o : Oper} {tt : Ev.T SV} {tmps : Array Value} {b : Bool} (hT : ∀ j want g d, o.guard = some (j, want) → ops[j]? = some g → g.dst = some d → ∀ sv, tt.get d = some sv → ∃ cv, conc ρ sv = some cv ∧ tmps[d]? = some cv)
    (h : wanted ops.toList o tt = some b) : Region.wanted o (Go.yielded ops tmps) = b := by
  unfold wanted at h
  unfold Region.wanted
  cases hg : o.guard with
  | none => rw [hg] at h; simpa using h
  | some jw =>
    obtain ⟨j, want⟩ := jw
    rw [hg] at h
    dsimp only at h ⊢
    split at h
    · rename_i g hj
      split at h
      · rename_i d hd
        have hj' : ops[j]? = some g := by simpa using hj
        split at h
        · rename_i b' hb
          obtain ⟨u, h1, h2⟩ := hT j want g d hg hj' hd _ hb
          rw [conc_lit] at h1
          cases h1
          have : Go.yielded ops tmps j = some b' := by simp [Go.yielded, hj', hd, h2]
          rw [this]
          cases b' <;> cases want <;> simp_all
        · rename_i sv hne hb
          cases h
          obtain ⟨u, h1, h2⟩ := hT j want g d hg hj' hd _ hb
          have : Go.yielded ops tmps j = none := by
            simp only [Go.yielded, hj', Option.bind_some, hd, h2]
            cases u <;> first | rfl | exact absurd (conc_bool h1) (hne _)
          rw [this]
          rfl
        · cases h
      · cases h
    · cases h

def noSt : St := { heap := .leaf, next := 0, minw := 0, hid := [], wr := [] }
theorem noSt_see (n : Nat) : noSt.see n = none := rfl
theorem noSt_rel (h : ∀ b i v, cx.old b i = some v → b < B ∧ w.cell? ⟨b, i, none⟩ = some v) (hs : B ≤ w.heap.size) : Rel cx B ρ w noSt :=
  ⟨(fun n o h => by rw [noSt_see] at h; cases h), (fun n m o o' b c c' h => by rw [noSt_see] at h; cases h), (fun n o h => by simp [noSt, Ev.T.get_leaf] at h), h, hs⟩

/-- What a load sees. -/
theorem loadFrom_sees {s : St} {n off k : Nat} {l : List SV} (h : loadFrom cx s (.ptr n off) k = some l) : ∃ x, s.see n = some x := by
  simp only [loadFrom] at h
  split at h
  · rename_i c hc
    unfold St.cellsAt at hc
    split at hc
    · rename_i hs; exact ⟨_, hs⟩
    · rename_i hs; exact ⟨_, hs⟩
    · cases hc
  · cases h
theorem load_sees {s : St} {t : TypeId} {n off : Nat} {v : SV} (h : load cx s t (.ptr n off) = some v) : ∃ x, s.see n = some x := by
  unfold load at h
  split at h
  · split at h
    · split at h
      · rename_i hl; exact loadFrom_sees hl
      · cases h
    · cases h
  · split at h
    · rename_i hl; exact loadFrom_sees hl
    · cases h
  · cases h
theorem loadFrom_one {s s2 : St} {n off k : Nat} (h : s2.see n = s.see n) : loadFrom cx s2 (.ptr n off) k = loadFrom cx s (.ptr n off) k := by
  simp only [loadFrom, St.cellsAt, h]
theorem load_one {s : St} {t : TypeId} {n off m0 : Nat} {x : SO} {v : SV} (hx : s.see n = some x) (h : load cx s t (.ptr n off) = some v) : load cx { heap := Ev.T.put (some x) .leaf n, next := m0, minw := 0, hid := [], wr := [] } t (.ptr n off) = some v := by
  have hs : ({ heap := Ev.T.put (some x) .leaf n, next := m0, minw := 0, hid := [], wr := [] } : St).see n = s.see n := by
    rw [hx]
    exact see_iff.2 ⟨rfl, by simp [Ev.T.get_put]⟩
  unfold load at h ⊢
  simp only [loadFrom_one hs]
  exact h
theorem load_lit {s : St} {t : TypeId} {u : Value} {v : SV} (h : load cx s t (.lit u) = some v) (s2 : St) : load cx s2 t (.lit u) = some v := by
  have hl : ∀ k, loadFrom cx s2 (.lit u) k = loadFrom cx s (.lit u) k := fun k => by
    cases u with
    | pointer a =>
      cases a with
      | none => rfl
      | some ad =>
        obtain ⟨b, o, sp⟩ := ad
        cases sp <;> rfl
    | _ => rfl
  unfold load at h ⊢
  simp only [hl]
  exact h

/-- One operation is carried out, whichever comes next. -/
theorem drawn_step (hG : Good cx.P) (hih : OneOK cx B ih) {ops : Array Oper} (hops : ops.toList = L) (W : Whole cx ih nt L T) (F : Fits L) (hb : ∀ n o, (T.st 0).heap.get n = some o → n < (T.st 0).next) (hf0 : Fresh ρ0 (T.st 0).next (T.st L.length).next) (hR0 : Rel cx B ρ0 w0 (T.st 0))
    (hC : Closed L In) (hI : Inv cx B ih nt L T ρ0 w0 In ρ w ta) {i : Nat} {o : Oper} (ho : L[i]? = some o) (hi : ¬ In i) (hanc : ∀ m, Nat.testBit (anc L i) m = true → In m) {f : FuncId} {k : List Item} {ds : List Deferred} {ro : Option Nat} {cs : List Frame} {rest : List Nat} :
    ∃ ρ' w' ta', Steps cx.P (lone (fr f ta (.inRegion ops (i :: rest) :: k) ds ro) cs w) (lone (fr f ta' (.inRegion ops rest :: k) ds ro) cs w') ∧ Inv cx B ih nt L T ρ0 w0 (And1 In i) ρ' w' ta' := by
  have hop : ops[i]? = some o := by rw [← hops] at ho; simpa using ho
  have hwant : ∀ b, wanted L o (T.ts i) = some b → Region.wanted o (Go.yielded ops ta) = b := by
    intro b hw
    rw [← hops] at hw
    refine wanted_slot (ρ := ρ) (fun j want g d hg hj hd sv hsv => ?_) hw
    refine slot_ok W F hC hI ho hi hanc ?_ hsv
    unfold looks
    rw [hg]
    have : L[j]? = some g := by rw [← hops]; simpa using hj
    dsimp only
    rw [this]
    simp [hd]
  have hev : ∀ x ∈ o.op.operands, ∀ sv, eval (T.ts i) x = some sv → conc ρ sv = some ((fr f ta [] ds ro).eval x) := by
    intro x hx sv hsv
    cases x with
    | tmp t =>
      obtain ⟨cv, h1, h2⟩ := slot_ok W F hC hI ho hi hanc (t := t) (by
        unfold looks
        refine List.mem_append.2 (.inl (List.mem_filterMap.2 ⟨.tmp t, by simpa using hx, rfl⟩))) hsv
      rw [h1]
      simp [Frame.eval, fr, h2]
    | const c => simp only [eval, Option.some.injEq] at hsv; subst hsv; exact conc_lit _ _
    | global g => simp only [eval, Option.some.injEq] at hsv; subst hsv; exact conc_lit _ _
    | func g => simp only [eval, Option.some.injEq] at hsv; subst hsv; exact conc_fn (concs_nil _)
  have hput := W.put ho
  have hsl : ∀ {ρ' cv}, Sub ρ ρ' → conc ρ' (T.vl i) = some cv → _ := fun {ρ' cv} hs hv => inv_slots (ρ' := ρ') (dst_apart F) ho (cv := cv) hI.tsize ⟨_, hput⟩ hv hs hI.slots hI.olds hi
  have hlt := (List.getElem?_eq_some_iff.1 ho).1
  have hnl : T.rn (i + 1) = T.rn i → ¬ Loud cx ih nt L T i := by
    rintro e ⟨o', _, _, s', _, _, _, _, h, _⟩
    rw [e] at h
    have := congrArg List.length h
    simp at this
  have still : ∀ {sF : St} {o' : Oper}, o' = o → Rel cx B ρ w sF → oneOp cx ih (T.ts i) sF o = some (T.vl i, sF) → wanted L o (T.ts i) = some true → T.rn (i + 1) = T.rn i →
      (∀ {w' : World}, Ext sF sF ρ ρ w w' → ∀ b, b < w.heap.size → w'.heap[b]? = w.heap[b]?) →
      ∃ ρ' w' ta', Steps cx.P (lone (fr f ta (.inRegion ops (i :: rest) :: k) ds ro) cs w) (lone (fr f ta' (.inRegion ops rest :: k) ds ro) cs w') ∧ Inv cx B ih nt L T ρ0 w0 (And1 In i) ρ' w' ta' := by
    intro sF o' _ hRF hrun h1 h4 hsame
    obtain ⟨ρ', w', cv, g1, g2, g3, g4⟩ := oneOp_ok (k := k) (ds := ds) (ro := ro) (cs := cs) (f := f) (rest := rest) (s := sF) (s' := sF) hG hih hRF (fun n h h' => by omega) hop (hwant _ h1) hev hrun
    have hρ : ρ' = ρ := by
      funext n
      cases hr : ρ n with
      | some p => exact g4.sub n p hr
      | none =>
        cases hr' : ρ' n with
        | none => rfl
        | some p =>
          have := g4.dom n hr (by simp [hr'])
          omega
    subst hρ
    exact ⟨ρ', w', _, g1, inv_still hR0 hI (hnl h4) (hsl (Sub.refl _) g2) g4.size (hsame g4) g4.tape g4.os g4.output⟩
  rcases W.step i o ho with ⟨h1, h2, h3, _, _, _, h4⟩ | ⟨h1, h2, _, _, _, h3⟩ | hl | ⟨h1, ⟨fz, h2, h3⟩, _, _, _, h4⟩
  · obtain ⟨_, hq⟩ := quiet_oneOp h2 h3
    obtain ⟨ρ', w', cv, g1, g2, g3, g4⟩ := oneOp_ok (k := k) (ds := ds) (ro := ro) (cs := cs) (f := f) (rest := rest) (s := noSt) (s' := noSt) hG hih (noSt_rel hI.old hI.wsize) (fun n h h' => by simp [noSt] at h') hop (hwant _ h1) hev (hq noSt)
    have hρ : ρ' = ρ := by
      funext n
      cases hr : ρ n with
      | some p => exact g4.sub n p hr
      | none =>
        cases hr' : ρ' n with
        | none => rfl
        | some p =>
          have := g4.dom n hr (by simp [hr'])
          simp [noSt] at this
    subst hρ
    exact ⟨ρ', w', _, g1, inv_still hR0 hI (hnl h4) (hsl (Sub.refl _) g2) g4.size (fun b hb' => g4.frame b hb' (fun n o c h => by rw [noSt_see] at h; cases h)) g4.tape g4.os g4.output⟩
  · have hv : conc ρ (T.vl i) = some undef := by rw [h2]; exact conc_lit _ _
    exact ⟨ρ, w, _, .one (st_op_skip hop (hwant _ h1)), inv_still hR0 hI (hnl h3) (hsl (Sub.refl _) hv) (Nat.le_refl _) (fun _ _ => rfl) rfl rfl rfl⟩
  · have hL : Loud cx ih nt L T i := ⟨o, ho, hl⟩
    obtain ⟨h1, s', h2, h3, h4, _, _, h5⟩ := hl
    have hR := given_rel W hb hC hI hL hi hanc
    have hsn : (T.st (i + 1)).next = s'.next := by rw [h5]
    obtain ⟨ρ', w', cv, g1, g2, g3, g4⟩ := oneOp_ok (k := k) (ds := ds) (ro := ro) (cs := cs) (f := f) (rest := rest) (s := T.given L i) (s' := s') hG hih hR (by rw [← hsn]; exact hI.fresh i hL hi) hop (hwant _ h1) hev h2
    refine ⟨ρ', w', _, g1, inv_loud W hb hf0 hC hI ho hL hi hanc (hsl g4.sub g2) h5 (fun hc => ?_) g3 g4⟩
    rw [hc] at h4
    have hbl : Nat.blt s'.minw (T.st i).next = false := by
      cases hbb : Nat.blt s'.minw (T.st i).next
      · rfl
      · rw [hbb] at h4; simp at h4
    by_cases hh : s'.minw < (T.st i).next
    · have : Nat.blt s'.minw (T.st i).next = true := Nat.ble_eq_true_of_le hh
      rw [this] at hbl; cases hbl
    · omega
  · -- a load of a block that nothing in the region writes
    obtain ⟨dst, op, type, pos, after, guard⟩ := o
    dsimp only at h2
    unfold frozenLoad at h2
    split at h2
    · rename_i t a _
      have hone : ∀ sF, oneOp cx ih (T.ts i) sF ⟨dst, .load t a, type, pos, after, guard⟩ = (match eval (T.ts i) a with | some p => (load cx sF t p).map fun v => (v, sF) | none => none) := fun sF => rfl
      split at h2
      · rename_i n off hp
        split at h2
        · rename_i v hv
          cases h2
          have hnw := h3 n (List.mem_singleton.2 rfl)
          obtain ⟨x, hx⟩ : ∃ x, (T.st 0).see n = some x := load_sees hv
          obtain ⟨b, c, ob, e1, e2, e3, e4⟩ := hR0.obj n x hx
          have hlt0 := hR0.bd n x hx
          have hw := hI.since.keepw n x b c hnw hlt0 hx e1
          have hRF : Rel cx B ρ w { heap := Ev.T.put (some x) .leaf n, next := (T.st 0).next, minw := 0, hid := [], wr := [] } := by
            have hs : ∀ m y, ({ heap := Ev.T.put (some x) .leaf n, next := (T.st 0).next, minw := 0, hid := [], wr := [] } : St).see m = some y → m = n ∧ y = x := by
              intro m y hy
              obtain ⟨_, y2⟩ := see_iff.1 hy
              simp only [Ev.T.get_put] at y2
              split at y2
              · rename_i em; cases y2; exact ⟨em, rfl⟩
              · rw [Ev.T.get_leaf] at y2; cases y2
            refine ⟨fun m y hy => ?_, fun m1 m2 y1 y2 b' c1 c2 q1 q2 _ _ => ((hs _ _ q1).1).trans (hs _ _ q2).1.symm, fun m y hy => ?_, hI.old, hI.wsize⟩
            · obtain ⟨rfl, rfl⟩ := hs m y hy
              exact ⟨b, c, ob, hI.since.sub _ _ e1, e2, by rw [hw]; exact e3, e4.mono hI.since.sub⟩
            · obtain ⟨rfl, rfl⟩ := hs m y (see_iff.2 ⟨rfl, hy⟩)
              exact hlt0
          refine still rfl hRF ?_ h1 h4 (fun {w'} hE b' hb' => ?_)
          · rw [hone, hp]
            dsimp only
            rw [load_one hx hv]
            rfl
          · by_cases hbb : b' = b
            · rw [hbb]
              exact (hE.keepw n (by simp) hlt0).2 x b c (see_iff.2 ⟨rfl, by simp [Ev.T.get_put]⟩) (hI.since.sub _ _ e1)
            · refine hE.frame b' hb' (fun m y c' hm hr => ?_)
              obtain ⟨_, y2⟩ := see_iff.1 hm
              simp only [Ev.T.get_put] at y2
              split at y2
              · rename_i em
                rw [em, hI.since.sub _ _ e1] at hr
                cases hr
                exact hbb rfl
              · rw [Ev.T.get_leaf] at y2; cases y2
        · cases h2
      · rename_i u hp
        split at h2
        · rename_i v hv
          cases h2
          refine still (sF := noSt) rfl (noSt_rel hI.old hI.wsize) ?_ h1 h4 (fun {w'} hE b' hb' => hE.frame b' hb' (fun m y c' hm => by rw [noSt_see] at hm; cases hm))
          rw [hone, hp]
          dsimp only
          rw [load_lit hv noSt]
          rfl
        · cases h2
      · cases h2
    · cases h2
end
end Go.Proofs.YtjppaamnicknnaaDoor.Ev

namespace Go.Proofs.YtjppaamnicknnaaDoor.Ev
open Go
variable [Env]

def unlisted (l : List Bool) : Nat := (l.filter (!·)).length

theorem unlisted_set : ∀ (l : List Bool) (i : Nat), l[i]? = some false → unlisted (l.set i true) + 1 = unlisted l
  | [], i, h => by simp at h
  | b :: l, 0, h => by
    simp at h
    subst h
    simp [unlisted]
  | b :: l, i + 1, h => by
    have := unlisted_set l i (by simpa using h)
    simp only [unlisted] at this ⊢
    cases b <;> simp only [List.set_cons_succ, List.filter_cons, Bool.not_true, Bool.not_false, if_true, Bool.false_eq_true, if_false, List.length_cons] <;> omega

theorem unlisted_zero : ∀ (l : List Bool), unlisted l = 0 → ∀ i, i < l.length → l[i]? = some true
  | [], _, i, h => by simp at h
  | b :: l, h, i, hi => by
    cases b
    · simp [unlisted] at h
    · cases i with
      | zero => rfl
      | succ i =>
        have := unlisted_zero l (by simpa [unlisted] using h) i (by simpa using hi)
        simpa using this

section
variable {cx : Cx} {B : Nat} {ih : Runs} {nt : Nat} {L : List Oper} {T : Tr} {ρ0 ρ : Nm} {w0 w : World} {ta : Array Value}

def Listed (listed : Array Bool) : Nat → Prop := fun j => listed[j]? = some true

theorem listed_and1 {listed : Array Bool} {i : Nat} (hi : i < listed.size) : Listed (listed.setIfInBounds i true) = And1 (Listed listed) i := by
  funext j
  simp only [Listed, And1, eq_iff_iff]
  by_cases e : j = i
  · subst e; simp [hi]
  · simp [Ne.symm e, e]

theorem lin_ok (hG : Good cx.P) (hih : OneOK cx B ih) {ops : Array Oper} (hops : ops.toList = L) (W : Whole cx ih nt L T) (F : Fits L) (hb : ∀ n o, (T.st 0).heap.get n = some o → n < (T.st 0).next) (hf0 : Fresh ρ0 (T.st 0).next (T.st L.length).next) (hR0 : Rel cx B ρ0 w0 (T.st 0))
    {f : FuncId} {k : List Item} {ds : List Deferred} {ro : Option Nat} {cs : List Frame} : ∀ (fuel t : Nat) (listed : Array Bool) (ρ : Nm) (w : World) (ta : Array Value), listed.size = L.length → unlisted listed.toList ≤ fuel → Closed L (Listed listed) →
      Inv cx B ih nt L T ρ0 w0 (Listed listed) ρ w ta →
    ∃ ρ' w' ta' In, Steps cx.P (lone (fr f ta (.inRegion ops (Region.linearise.go .any ops fuel t listed []) :: k) ds ro) cs w) (lone (fr f ta' k ds ro) cs w') ∧ Inv cx B ih nt L T ρ0 w0 In ρ' w' ta' ∧ ∀ j, j < L.length → In j := by
  have hsz : ops.size = L.length := by rw [← hops, Array.length_toList]
  have hget : ∀ j, ops[j]? = L[j]? := fun j => by rw [← hops, Array.getElem?_toList]
  intro fuel
  induction fuel with
  | zero =>
    intro t listed ρ w ta hls hu hC hI
    refine ⟨ρ, w, ta, Listed listed, .one st_region_end, hI, fun j hj => ?_⟩
    have := unlisted_zero listed.toList (by omega) j (by rw [Array.length_toList, hls]; exact hj)
    simpa [Listed] using this
  | succ fuel IH =>
    intro t listed ρ w ta hls hu hC hI
    simp only [Region.linearise.go]
    change ∃ ρ' w' ta' In, Steps cx.P (lone (fr f ta (.inRegion ops (match (Region.ready .any ops listed)[t % (Region.ready .any ops listed).length]? with
      | some i => Region.linearise.go .any ops fuel (t / (Region.ready .any ops listed).length) (listed.setIfInBounds i true) [i]
      | none => [].reverse) :: k) ds ro) cs w) _ ∧ _
    cases hi : (Region.ready .any ops listed)[t % (Region.ready .any ops listed).length]? with
    | none =>
      have hnil : Region.ready .any ops listed = [] := by
        cases hr : Region.ready .any ops listed with
        | nil => rfl
        | cons x xs =>
          rw [hr] at hi
          have hlt : t % (x :: xs).length < (x :: xs).length := Nat.mod_lt _ (by simp)
          rw [List.getElem?_eq_getElem hlt] at hi
          cases hi
      refine ⟨ρ, w, ta, Listed listed, .one st_region_end, hI, fun j hj => ?_⟩
      -- else the least one not yet carried out would be ready
      by_cases hall : ∃ m, m < L.length ∧ ¬ Listed listed m
      · exfalso
        obtain ⟨m, ⟨hm, hnm⟩, hleast⟩ := least_exists hall
        have : m ∈ Region.ready .any ops listed := by
          rw [mem_ready]
          refine ⟨?_, L[m], by rw [hget]; exact List.getElem?_eq_getElem hm, fun e he hbe => ?_⟩
          · have hlt : m < listed.size := by omega
            simp only [Listed] at hnm
            rw [Array.getElem?_eq_getElem hlt] at hnm
            simp only [Array.getD, hlt, dif_pos]
            cases hx : listed[m]
            · exact hx
            · rw [hx] at hnm; exact absurd rfl hnm
          · have hlt := F.back m _ (List.getElem?_eq_getElem hm) e (by simpa using he) hbe
            have hl : Listed listed e.on := by
              by_cases hh : Listed listed e.on
              · exact hh
              · exact absurd ⟨by omega, hh⟩ (hleast e.on hlt)
            simp only [Listed] at hl
            simp [hl]
        rw [hnil] at this
        cases this
      · by_cases hh : Listed listed j
        · exact hh
        · exact absurd ⟨j, hj, hh⟩ hall
    | some i =>
      have hmem := List.mem_of_getElem? hi
      obtain ⟨h0, o, ho, hedge⟩ := mem_ready.1 hmem
      rw [hget] at ho
      have hlt : i < L.length := (List.getElem?_eq_some_iff.1 ho).1
      have hlt' : i < listed.size := by omega
      have hni : listed[i]? = some false := by
        rw [Array.getElem?_eq_getElem hlt']
        simp only [Array.getD, hlt', dif_pos] at h0
        exact congrArg some h0
      have hnI : ¬ Listed listed i := by simp [Listed, hni]
      have hanc : ∀ m, Nat.testBit (anc L i) m = true → Listed listed m := by
        intro m hm
        obtain ⟨e, he, hbe, hj⟩ := anc_spec ho (F.back i o ho) hm
        have hl := hedge e (by simpa using he) hbe
        have hle : Listed listed e.on := by
          simp only [Listed]
          by_cases hx : e.on < listed.size
          · simp only [Array.getD, hx, dif_pos] at hl
            rw [Array.getElem?_eq_getElem hx]
            exact congrArg some hl
          · simp [Array.getD, hx] at hl
        rcases hj with rfl | hj
        · exact hle
        · exact hC _ hle m hj
      dsimp only
      rw [linearise_go_acc, List.reverse_singleton, List.singleton_append]
      obtain ⟨ρ1, w1, ta1, g1, g2⟩ := drawn_step (f := f) (k := k) (ds := ds) (ro := ro) (cs := cs) (rest := Region.linearise.go .any ops fuel (t / (Region.ready .any ops listed).length) (listed.setIfInBounds i true) []) hG hih hops W F hb hf0 hR0 hC hI ho hnI hanc
      rw [← listed_and1 hlt'] at g2
      have hu' : unlisted (listed.setIfInBounds i true).toList ≤ fuel := by
        have := unlisted_set listed.toList i (by simpa using hni)
        rw [Array.toList_setIfInBounds]
        omega
      have hC' : Closed L (Listed (listed.setIfInBounds i true)) := by
        rw [listed_and1 hlt']
        intro j hj m hm
        rcases hj with hj | rfl
        · exact .inl (hC j hj m hm)
        · exact .inl (hanc m hm)
      obtain ⟨ρ2, w2, ta2, In, e1, e2, e3⟩ := IH _ _ ρ1 w1 ta1 (by simpa using hls) hu' hC' g2
      exact ⟨ρ2, w2, ta2, In, g1.trans e1, e2, e3⟩

/-- The order of a drawn region does not matter. -/
theorem drawn_ok (hG : Good cx.P) (hih : OneOK cx B ih) (hk : KpOK ih) {f : FuncId} {k : List Item} {ds : List Deferred} {ro : Option Nat} {cs : List Frame} {ops : Array Oper} {tt tt' : Ev.T SV} {s s' : St} {tmps : Array Value}
    (hfit : regionFits ops.toList (ops.toList.zip (ancs ops.toList)) 0 [] = true) {fm : Bool} (h : runDrawn cx ih nt ops.toList fm s [] (ops.toList.zip (ancs ops.toList)) 0 false [] tt s = some (tt', s')) (hR : Rel cx B ρ w s) (hT : TRel ρ nt tt tmps) (hf : Fresh ρ s.next s'.next) (t : Nat) :
    ∃ ρ' w' tmps', Steps cx.P (lone (fr f tmps (.inRegion ops (Region.linearise .any ops t) :: k) ds ro) cs w) (lone (fr f tmps' k ds ro) cs w') ∧ TRel ρ' nt tt' tmps' ∧ Rel cx B ρ' w' s' ∧ Ext s s' ρ ρ' w w' := by
  have F := fits_of hfit
  have hzl : (ops.toList.zip (ancs ops.toList)).length = ops.toList.length := by rw [List.length_zip, ancs_length]; omega
  obtain ⟨_, T, e1, e2, e3, e4, e5, e6, e7⟩ := trace h
  rw [Nat.zero_add, hzl] at e5 e6
  have W : Whole cx ih nt ops.toList T := by
    refine ⟨fun i o ho => ?_, hk, e4⟩
    have hlt := (List.getElem?_eq_some_iff.1 ho).1
    have hz : (ops.toList.zip (ancs ops.toList))[i]? = some (o, anc ops.toList i) := by
      rw [List.getElem?_zip_eq_some]
      refine ⟨ho, ?_⟩
      have : i < (ancs ops.toList).length := by rw [ancs_length]; exact hlt
      rw [List.getElem?_eq_getElem this]
      simp [anc, this]
    have := e7 i (by rw [hzl]; exact hlt) o _ hz
    rw [Nat.zero_add] at this
    rw [e1, e5]
    exact this
  subst e1; subst e2; subst e5; subst e6
  have hnone : ∀ j, ¬ Listed (Array.replicate ops.size false) j := by
    intro j hj
    simp only [Listed, Array.getElem?_replicate] at hj
    split at hj <;> cases hj
  have hst0 : ∀ {τ nm : Nat} {x : SO}, Top cx ih nt ops.toList T (Listed (Array.replicate ops.size false)) τ → Vis cx ih nt ops.toList T (Listed (Array.replicate ops.size false)) nm → (T.st τ).see nm = some x → (T.st 0).see nm = some x := by
    intro τ nm x hτ hv hx
    rcases hv with hv | ⟨j, _, hj, _⟩
    · have hs := W.still (a := 0) hv τ (by have := hτ.1; omega) (fun j _ hj hl => by
        cases hc : T.ch (j + 1)
        · rfl
        · exact absurd (hτ.2.2 j (by omega) hl hc) (hnone j))
      rw [Nat.zero_add] at hs
      obtain ⟨x1, x2⟩ := see_iff.1 hx
      exact see_iff.2 ⟨by rw [← W.hid hτ.1]; exact x1, by rw [← hs]; exact x2⟩
    · exact absurd hj (hnone j)
  have I0 : Inv cx B ih nt ops.toList T ρ w (Listed (Array.replicate ops.size false)) ρ w tmps := by
    refine ⟨hT.1, fun t j hj => absurd hj (hnone j), fun t sv _ hsv => hT.2 t sv hsv, fun τ hτ nm o hv ho => hR.obj nm o (hst0 hτ hv ho), fun τ hτ n m o o' b c c' h1 h2 h3 h4 h5 h6 => hR.inj n m o o' b c c' (hst0 hτ h1 h3) (hst0 hτ h2 h4) h5 h6, fun j hl _ => ?_, hR.old, hR.size, ?_⟩
    · have hjl := loud_lt hl
      exact hf.sub (W.kp' (Nat.zero_le j) (by omega)).le (W.kp' (i := j + 1) (j := ops.toList.length) (by omega) (Nat.le_refl _)).le
    · exact ⟨Sub.refl _, fun n h h' => absurd h h', (fun n b c h h' => by rw [h] at h'; cases h'), fun _ _ _ => rfl, Nat.le_refl _, rfl, rfl, rfl, fun _ _ _ _ _ _ _ _ => rfl, fun _ _ _ _ _ _ _ _ => rfl⟩
  obtain ⟨ρ', w', ta', In, g1, hI, hall⟩ := lin_ok (f := f) (k := k) (ds := ds) (ro := ro) (cs := cs) hG hih rfl W F hR.bound hf hR ops.size t (Array.replicate ops.size false) ρ w tmps (by simp) (by
    simp only [unlisted, Array.toList_replicate]
    exact Nat.le_trans (List.length_filter_le _ _) (by simp)) (fun j hj => absurd hj (hnone j)) I0
  have hτ : Top cx ih nt ops.toList T In ops.toList.length := ⟨Nat.le_refl _, fun h => by omega, fun j hj _ _ => hall j hj⟩
  have hK := W.kp' (Nat.zero_le ops.toList.length) (Nat.le_refl _)
  have hvis : ∀ {nm : Nat} {x : SO}, (T.st ops.toList.length).see nm = some x → Vis cx ih nt ops.toList T In nm := by
    intro nm x hx
    have hn := raw_lt W hR.bound (Nat.le_refl _) (see_iff.1 hx).2
    by_cases h0 : nm < (T.st 0).next
    · exact .inl h0
    · obtain ⟨j, hj, hl, h1, h2⟩ := W.cover (by omega) _ (Nat.le_refl _) hn
      exact .inr ⟨j, hl, hall j hj, h1, h2⟩
  have S := hI.since
  refine ⟨ρ', w', ta', g1, ⟨hI.tsize, fun t sv hsv => ?_⟩, ⟨fun n o h => hI.objs _ hτ n o (hvis h) h, fun n m o o' b c c' h1 h2 h3 h4 => hI.inj _ hτ n m o o' b c c' (hvis h1) (hvis h2) h1 h2 h3 h4, fun n o h => raw_lt W hR.bound (Nat.le_refl _) h, hI.old, hI.wsize⟩,
    ⟨hK.le, S.sub, S.dom, S.newb, S.frame, S.size, S.tape, S.os, S.output, hK.hid, hK.minw, fun n o h h0 => ?_, fun n h1 h2 => ⟨?_, fun o b c h3 h4 => S.keep n o b c h1 h2 h3 h4⟩, hK.wr, fun n h1 h2 => ⟨?_, fun o b c h3 h4 => S.keepw n o b c h1 h2 h3 h4⟩⟩⟩
  · rcases ts_get W t _ (Nat.le_refl _) with ⟨j, hj, h1, h2⟩ | ⟨h1, h2⟩
    · rw [h2] at hsv
      cases hsv
      exact hI.slots t j (hall j hj) h1
    · rw [h2] at hsv
      refine hI.olds t sv (fun j _ hd => ?_) hsv
      have hjl : j < ops.toList.length := by
        simp only [dstOf, Option.bind_eq_some_iff] at hd
        obtain ⟨oj, hoj, _⟩ := hd
        exact (List.getElem?_eq_some_iff.1 hoj).1
      exact h1 j hjl hd
  · obtain ⟨x1, x2⟩ := see_iff.1 h
    have hn := raw_lt W hR.bound (Nat.le_refl _) x2
    have h0' : n < (T.st 0).next := by
      by_cases hh : n < (T.st 0).next
      · exact hh
      · exact absurd (hf n (by omega) hn) h0
    cases hr : (T.st 0).heap.get n with
    | none => rw [hK.dead n h0' hr] at x2; cases x2
    | some x => exact ⟨x, see_iff.2 ⟨by rw [← hK.hid]; exact x1, hr⟩⟩
  · unfold St.see
    rw [hK.hid, hK.keep n h2 h1]
  · unfold St.see
    rw [hK.hid, hK.keepw n h2 h1]

/-- The same, from its beginning. -/
theorem region_ok (hG : Good cx.P) (hih : OneOK cx B ih) (hk : KpOK ih) {f : FuncId} {k : List Item} {ds : List Deferred} {ro : Option Nat} {cs : List Frame} {ops : Array Oper} {tt tt' : Ev.T SV} {s s' : St} {tmps : Array Value}
    (hfit : regionFits ops.toList (ops.toList.zip (ancs ops.toList)) 0 [] = true) (h : runRegion cx ih nt ops.toList tt s = some (tt', s')) (hR : Rel cx B ρ w s) (hT : TRel ρ nt tt tmps) (hf : Fresh ρ s.next s'.next) (t : Nat) :
    ∃ ρ' w' tmps', Steps cx.P (lone (fr f tmps (.inRegion ops (Region.linearise .any ops t) :: k) ds ro) cs w) (lone (fr f tmps' k ds ro) cs w') ∧ TRel ρ' nt tt' tmps' ∧ Rel cx B ρ' w' s' ∧ Ext s s' ρ ρ' w w' := by
  obtain ⟨fm, s1, h1, rfl⟩ := runRegion_split h
  have hR0 : Rel cx B ρ w { s with wr := [] } := ⟨hR.obj, hR.inj, hR.bound, hR.old, hR.size⟩
  obtain ⟨ρ', w', tmps', g1, g2, g3, g4⟩ := drawn_ok (f := f) (k := k) (ds := ds) (ro := ro) (cs := cs) hG hih hk hfit h1 hR0 hT hf t
  exact ⟨ρ', w', tmps', g1, g2, ⟨g3.obj, g3.inj, g3.bound, g3.old, g3.size⟩,
    ⟨g4.le, g4.sub, g4.dom, g4.newb, g4.frame, g4.size, g4.tape, g4.os, g4.output, g4.hid, g4.minw, g4.seen, g4.keep, fun n hn => List.mem_append_right _ hn, fun n hn hlt => g4.keepw n (fun hh => hn (List.mem_append_left _ hh)) hlt⟩⟩
end
end Go.Proofs.YtjppaamnicknnaaDoor.Ev

namespace Go.Proofs.YtjppaamnicknnaaDoor.Ev
open Go
variable [Env]

def dconc (ρ : Nm) : List Nat → Option (List Deferred)
  | [] => some []
  | d :: l => match ρ d, dconc ρ l with
    | some (b, _), some r => some ({ target := .collected b, args := #[] } :: r)
    | _, _ => none

theorem dconc_cons_iff {ρ : Nm} {d : Nat} {l : List Nat} {r : List Deferred} : dconc ρ (d :: l) = some r ↔ ∃ b c r', ρ d = some (b, c) ∧ dconc ρ l = some r' ∧ r = { target := .collected b, args := #[] } :: r' := by
  simp only [dconc]
  cases h : ρ d with
  | none => simp
  | some p => obtain ⟨b, c⟩ := p; cases dconc ρ l <;> simp [eq_comm]

theorem dconc_mono {ρ ρ' : Nm} (h : Sub ρ ρ') : ∀ {l : List Nat} {r : List Deferred}, dconc ρ l = some r → dconc ρ' l = some r
  | [], r, e => by simpa [dconc] using e
  | d :: l, r, e => by
    obtain ⟨b, c, r', h1, h2, rfl⟩ := dconc_cons_iff.1 e
    exact dconc_cons_iff.2 ⟨b, c, r', h _ _ h1, dconc_mono h h2, rfl⟩

section
variable {cx : Cx} {B : Nat} {ρ : Nm} {w : World} {s s' : St}

theorem run_takeDeferred' {P : Program} {b : Nat} (h : w.heap[b]? = some (.deferred (some []))) : (Instr.takeDeferred b).run P w = .ok [] { w with heap := w.heap.setIfInBounds b (.deferred none) } := by
  simp [Instr.takeDeferred, getObj, setObj, Sem.run, h]

/-- The blocks for deferred calls are taken. -/
theorem takeAll_ok {f : FuncId} {tmps : Array Value} {todo : List Item} {cs : List Frame} : ∀ {ds : List Nat} {s s' : St} {defs : List Deferred} {w : World}, Rel cx B ρ w s → takeAll ds s = some s' → dconc ρ ds = some defs →
    ∃ w', Steps cx.P (lone { fr f tmps todo defs none with mode := .returning } cs w) (lone { fr f tmps todo [] none with mode := .returning } cs w') ∧ Rel cx B ρ w' s' ∧ Ext s s' ρ ρ w w'
  | [], s, s', defs, w, hR, h, hd => by
    simp only [takeAll, Option.some.injEq] at h
    simp only [dconc, Option.some.injEq] at hd
    subst h; subst hd
    exact ⟨w, .refl _ _, hR, Ext.refl _ _ _⟩
  | d :: l, s, s', defs, w, hR, h, hd => by
    obtain ⟨b, c, r, h1, h2, rfl⟩ := dconc_cons_iff.1 hd
    simp only [takeAll] at h
    split at h
    · rename_i hs
      obtain ⟨b', c', ob, h3, _, h5, rfl⟩ := hR.obj d _ hs
      rw [h1] at h3
      cases h3
      obtain ⟨k1, k2⟩ := kill_ok hR hs h1 (w' := { w with heap := w.heap.setIfInBounds b (.deferred none) }) (Upd.mk' (heap_lt h5) (d := w.drawn))
      obtain ⟨w', g1, g2, g3⟩ := takeAll_ok k1 h h2
      exact ⟨w', .head (st_taken (run_takeDeferred' h5)) g1, g2, k2.trans g3⟩
    · cases h

theorem takeAll_next : ∀ {ds : List Nat} {s s' : St}, takeAll ds s = some s' → s'.next = s.next
  | [], s, s', h => by simp only [takeAll, Option.some.injEq] at h; rw [h]
  | d :: l, s, s', h => by
    simp only [takeAll] at h
    split at h
    · have h1 := takeAll_next h
      exact h1
    · cases h

def resOf (tmps : Array Value) : ResultVar → Sem Value
  | .tmp t => Pure.pure (tmps.getD t undef)
  | .cell a t => do loadVar t (← asAddr (tmps.getD a undef))

theorem results_eq (fn : Func) (tmps : Array Value) : Go.results fn tmps = (do let vs ← fn.results.mapM (resOf tmps); Pure.pure (if h : vs.size = 1 then vs[0] else .tuple vs)) := by
  unfold Go.results
  congr 2

theorem resOf_ok (hR : Rel cx B ρ w s) {nt : Nat} {tt : T SV} {tmps : Array Value} (hT : TRel ρ nt tt tmps) {x : SV} (r : ResultVar) (hx : (match r with
    | .tmp t => tt.get t
    | .cell a t => match tt.get a with
      | some p => load cx s t p
      | none => none) = some x) : ∃ u, conc ρ x = some u ∧ (resOf tmps r).run cx.P w = .ok u w := by
  cases r with
  | tmp t =>
    obtain ⟨u, g1, g2⟩ := hT.2 t x hx
    exact ⟨u, g1, by simp [resOf, g2]⟩
  | cell a t =>
    dsimp only at hx
    split at hx
    · rename_i p hp
      obtain ⟨u, g1, g2⟩ := hT.2 a p hp
      obtain ⟨b, off, cv, g3, g4, g5⟩ := load_ok hR hx
      rw [g1] at g3
      cases g3
      refine ⟨cv, g4, ?_⟩
      have hg : tmps.getD a undef = .pointer (some ⟨b, off, none⟩) := by simp [g2]
      simp [resOf, hg, asAddr, g5]
    · cases hx

/-- What a frame hands back. -/
theorem results_ok (hR : Rel cx B ρ w s) {nt : Nat} {tt : T SV} {tmps : Array Value} (hT : TRel ρ nt tt tmps) {fn : Func} {v : SV} (h : results cx s tt fn.results.toList = some v) :
    ∃ cv, conc ρ v = some cv ∧ (Go.results fn tmps).run cx.P w = .ok cv w := by
  have key : ∀ (l : List ResultVar) (vs : List SV), l.mapM (fun r => match r with
    | .tmp t => tt.get t
    | .cell a t => match tt.get a with
      | some p => load cx s t p
      | none => none) = some vs → ∃ us, concs ρ vs = some us ∧ (l.mapM (resOf tmps)).run cx.P w = .ok us w := by
    intro l
    induction l with
    | nil => intro vs h; simp at h; subst h; exact ⟨[], concs_nil _, by simp⟩
    | cons r l ih =>
      intro vs h
      simp only [List.mapM_cons, Option.bind_eq_bind, Option.pure_def] at h
      rw [Option.bind_eq_some_iff] at h
      obtain ⟨x, hx, h⟩ := h
      rw [Option.bind_eq_some_iff] at h
      obtain ⟨xs, hxs, h⟩ := h
      simp only [Option.some.injEq] at h
      subst h
      obtain ⟨us, h1, h2⟩ := ih xs hxs
      obtain ⟨u, g1, g2⟩ := resOf_ok hR hT r hx
      refine ⟨u :: us, concs_cons g1 h1, ?_⟩
      simp only [List.mapM_cons, Sem.run_bind, g2, Result.andThen_ok, h2, Sem.run_pure]
  have fin : ∀ us : List Value, (fn.results.toList.mapM (resOf tmps)).run cx.P w = .ok us w → (Go.results fn tmps).run cx.P w = .ok (if h : us.toArray.size = 1 then us.toArray[0] else .tuple us.toArray) w := by
    intro us hus
    rw [results_eq, Array.mapM_eq_mapM_toList, Sem.run_bind, Sem.run_map, hus]
    rfl
  unfold results at h
  split at h
  · rename_i x hx
    cases h
    obtain ⟨us, h1, h2⟩ := key _ _ hx
    obtain ⟨u, rfl, h3⟩ := concs_one h1
    exact ⟨u, h3, by rw [fin _ h2]; rfl⟩
  · rename_i vs hne hx
    cases h
    obtain ⟨us, h1, h2⟩ := key _ _ hx
    refine ⟨_, conc_tup h1, ?_⟩
    rw [fin _ h2]
    have : ¬ us.toArray.size = 1 := by
      have hl := concs_length h1
      intro h1'
      rw [List.size_toArray, hl] at h1'
      obtain ⟨y, rfl⟩ := List.length_eq_one_iff.1 h1'
      exact hne y rfl
    rw [dif_neg this]
  · cases h
end
end Go.Proofs.YtjppaamnicknnaaDoor.Ev

namespace Go.Proofs.YtjppaamnicknnaaDoor.Ev
open Go
variable [Env]

theorem exitTo_eq (id : Nat) : ∀ k, exitTo id k = Go.exitTo id k
  | [] => rfl
  | x :: k => by
    cases x <;> simp only [exitTo, Go.exitTo] <;> first | exact exitTo_eq id k | skip
    rename_i id'
    by_cases h : id' = id
    · have h1 : Nat.beq id' id = true := by rw [h]; exact Nat.beq_refl id
      have h2 : (id' == id) = true := by simpa using h
      rw [h1, h2]
      rfl
    · have h1 : Nat.beq id' id = false := by
        cases hb : Nat.beq id' id
        · rfl
        · exact absurd (beq_eq hb) h
      have h2 : (id' == id) = false := by simpa using h
      rw [h1, h2]
      exact exitTo_eq id k

theorem tmps0_ok {ρ : Nm} : ∀ (args : List SV) (us : List Value) (i : Nat) (tt : T SV) (pre : List Value) (m : Nat), concs ρ args = some us → pre.length = i →
    (∀ j sv, tt.get j = some sv → j < i ∧ ∃ v, conc ρ sv = some v ∧ pre[j]? = some v) → ∀ j sv, (tmps0 args i tt).get j = some sv → ∃ v, conc ρ sv = some v ∧ (pre ++ us ++ List.replicate m undef)[j]? = some v
  | [], us, i, tt, pre, m, h, hl, ht, j, sv, hj => by
    obtain ⟨hlt, v, h1, h2⟩ := ht j sv hj
    refine ⟨v, h1, ?_⟩
    rw [List.append_assoc, List.getElem?_append_left (by omega)]
    exact h2
  | x :: xs, us, i, tt, pre, m, h, hl, ht, j, sv, hj => by
    obtain ⟨u, us', h1, h2, rfl⟩ := concs_cons_iff.1 h
    have := tmps0_ok xs us' (i + 1) (tt.put (some x) i) (pre ++ [u]) m h2 (by simp [hl]) (fun j' sv' hj' => by
      rw [T.get_put] at hj'
      by_cases e : j' = i
      · rw [if_pos e] at hj'
        cases hj'
        subst e
        exact ⟨by omega, u, h1, by rw [List.getElem?_append_right (by omega)]; simp [hl]⟩
      · rw [if_neg e] at hj'
        obtain ⟨hlt, v, g1, g2⟩ := ht j' sv' hj'
        exact ⟨by omega, v, g1, by rw [List.getElem?_append_left (by omega)]; exact g2⟩) j sv hj
    simpa using this

theorem TRel0 {ρ : Nm} {args : List SV} {us : List Value} {n : Nat} (h : concs ρ args = some us) (hn : args.length ≤ n) : TRel ρ n (tmps0 args 0 .leaf) (us.toArray ++ Array.replicate (n - us.toArray.size) undef) := by
  have hl := concs_length h
  refine ⟨by simp; omega, fun i sv hi => ?_⟩
  obtain ⟨v, h1, h2⟩ := tmps0_ok args us 0 .leaf [] (n - us.length) h rfl (fun j sv hj => by simp [T.get_leaf] at hj) i sv hi
  refine ⟨v, h1, ?_⟩
  rw [← h2]
  simp [← Array.getElem?_toList]

/-- How a frame ends. -/
def Out (P : Program) (mode : Mode) (f : FuncId) (m : Machine) (cs : List Frame) (cv : Value) (w' : World) : Prop := match mode with
  | .fn => ∃ fr', Steps P m (lone fr' cs w') ∧ fr'.fn = f ∧ fr'.leaving P w' (.returned cv)
  | .round _ => ∀ c cs', cs = c :: cs' → Steps P m (lone (c.finish cv) cs' w')

theorem Out.of_steps {P : Program} {mode : Mode} {f : FuncId} {m m1 : Machine} {cs : List Frame} {cv : Value} {w' : World} (h : Steps P m m1) (k : Out P mode f m1 cs cv w') : Out P mode f m cs cv w' := by
  cases mode with
  | fn => obtain ⟨fr', h1, h2, h3⟩ := k; exact ⟨fr', h.trans h1, h2, h3⟩
  | round l => exact fun c cs' e => h.trans (k c cs' e)

/-- The loop that a frame is a round of. -/
def MRel (ρ : Nm) (mode : Mode) (ro : Option Nat) (ds : List Nat) : Prop := match mode with
  | .fn => ro = none
  | .round l => ds = [] ∧ ∃ b c, ρ l = some (b, c) ∧ ro = some b

theorem MRel.mono {ρ ρ' : Nm} (h : Sub ρ ρ') {mode : Mode} {ro : Option Nat} {ds : List Nat} (r : MRel ρ mode ro ds) : MRel ρ' mode ro ds := by
  cases mode with
  | fn => exact r
  | round l => obtain ⟨h1, b, c, h2, h3⟩ := r; exact ⟨h1, b, c, h _ _ h2, h3⟩

section
variable {cx : Cx} {B : Nat} {ρ : Nm} {w : World} {s s' : St}

/-- The record of a loop is changed. -/
theorem setLoop_ok (hR : Rel cx B ρ w s) {l b c : Nat} (hl : ρ l = some (b, c)) {st : LoopState} {p : Option (Option Code)} (h : setLoop s l st p = some s') :
    ∃ r w', w.heap[b]? = some (.loop r) ∧ (∀ r', r' = { r with state := st, pending := p.getD r.pending } → w' = { w with heap := w.heap.setIfInBounds b (.loop r') }) ∧ Rel cx B ρ w' s' ∧ Ext s s' ρ ρ w w' ∧
      ∀ st0 p0 a1 a2 a3 a4 a5 a6 a7, s.see l = some (.loop st0 p0 a1 a2 a3 a4 a5 a6 a7) → r.state = st0 ∧ r.pending = p0 := by
  unfold setLoop at h
  split at h
  · rename_i st1 p1 fn nt tt params as body d hs
    cases h
    obtain ⟨b', c', ob, h1, h2, h3, tmps, db, dc, h4, h5, rfl⟩ := hR.obj l _ hs
    rw [hl] at h1
    cases h1
    have hset := set_ok hR hs hl (ob := .loop { state := st, pending := p.getD p1, fn := fn, tmps := tmps, params := params.toArray, assign := as, body := body, defers := db }) (Upd.mk' (heap_lt h3) (d := w.drawn)) (.loop st (p.getD p1) fn nt tt params as body d) ⟨tmps, db, dc, h4, h5, rfl⟩
    refine ⟨_, _, h3, fun r' hr' => by subst hr'; rfl, hset.1, hset.2, fun st0 p0 a1 a2 a3 a4 a5 a6 a7 h0 => ?_⟩
    rw [hs] at h0
    cases h0
    exact ⟨rfl, rfl⟩
  · cases h

theorem setLoop_next {l : Nat} {st : LoopState} {p : Option (Option Code)} (h : setLoop s l st p = some s') : s'.next = s.next := by
  unfold setLoop at h
  split at h
  · cases h; rfl
  · cases h

theorem run_setObj_loop {P : Program} {b : Nat} {r : Loop} (h : w.heap[b]? = some (.loop r)) (o : Obj) : (setObj b o).run P w = .ok () { w with heap := w.heap.setIfInBounds b o } := by
  simp [setObj, Sem.run, h]

theorem leave_ok (hR : Rel cx B ρ w s) {mode : Mode} {f : FuncId} {ds : List Nat} {nt : Nat} {tt : T SV} {tmps : Array Value} {jump : Option Code} {v : SV} (h : leave cx mode f ds tt s jump = some (v, s')) (hT : TRel ρ nt tt tmps) {ro : Option Nat} (hM : MRel ρ mode ro ds) {defs : List Deferred} (hd : dconc ρ ds = some defs)
    {todo : List Item} {cs : List Frame}
    (hfn : mode = .fn → jump = none ∨ jump = some .ret → step cx.P (lone (fr f tmps todo defs none) cs w) = .next (lone { fr f tmps todo defs none with mode := .returning } cs w))
    (hround : ∀ l c cs' v w', ro = some l → defs = [] → cs = c :: cs' → (Instr.endRound l jump).run cx.P w = .ok v w' → step cx.P (lone (fr f tmps todo defs ro) cs w) = .next (lone (c.finish v) cs' w')) :
    ∃ w' cv, Out cx.P mode f (lone (fr f tmps todo defs ro) cs w) cs cv w' ∧ conc ρ v = some cv ∧ Rel cx B ρ w' s' ∧ Ext s s' ρ ρ w w' := by
  cases mode with
  | fn =>
    obtain rfl : ro = none := hM
    simp only [leave] at h
    split at h
    · rename_i fn hj hfun
      split at h
      · rename_i s1 hs1
        simp only [Option.map_eq_some_iff, Prod.mk.injEq] at h
        obtain ⟨v', hv, rfl, rfl⟩ := h
        have hjj : jump = none ∨ jump = some .ret := by
          cases jump with
          | none => exact .inl rfl
          | some c => cases c <;> first | exact .inr rfl | (simp at hj)
        obtain ⟨w1, g1, g2, g3⟩ := takeAll_ok (f := f) (tmps := tmps) (todo := todo) (cs := cs) hR hs1 hd
        obtain ⟨cv, g4, g5⟩ := results_ok g2 hT hv
        refine ⟨w1, cv, ⟨_, .head (hfn rfl hjj) g1, rfl, ?_⟩, g4, g2, g3⟩
        exact ⟨rfl, rfl, rfl, fn, hfun, g5⟩
      · cases h
    · cases h
  | round l =>
    obtain ⟨rfl, b, c, hb, rfl⟩ := hM
    simp only [dconc, Option.some.injEq] at hd
    subst hd
    simp only [leave, Option.map_eq_some_iff, Prod.mk.injEq] at h
    obtain ⟨s1, hs1, rfl, rfl⟩ := h
    obtain ⟨r, w', h1, h2, h3, h4, _⟩ := setLoop_ok hR hb hs1
    have hw := h2 _ rfl
    refine ⟨w', .bool jump.isNone, fun c' cs' hcs => .one (hround b c' cs' _ _ rfl rfl hcs ?_), ?_, h3, h4⟩
    · simp only [Instr.endRound, Sem.run_bind, run_getLoop h1, Result.andThen_ok, run_setObj_loop h1, Sem.run_pure]
      rw [hw]
      cases jump <;> rfl
    · cases jump <;> exact conc_lit _ _

theorem leave_next {mode : Mode} {f : FuncId} {ds : List Nat} {tt : T SV} {jump : Option Code} {v : SV} (h : leave cx mode f ds tt s jump = some (v, s')) : s'.next = s.next := by
  cases mode with
  | fn =>
    simp only [leave] at h
    split at h
    · split at h
      · rename_i hs1
        simp only [Option.map_eq_some_iff, Prod.mk.injEq] at h
        obtain ⟨v', hv, rfl, rfl⟩ := h
        exact takeAll_next hs1
      · cases h
    · cases h
  | round l =>
    simp only [leave, Option.map_eq_some_iff, Prod.mk.injEq] at h
    obtain ⟨s1, hs1, rfl, rfl⟩ := h
    exact setLoop_next hs1

theorem tasks_next {r : Mode → FuncId → List Nat → Nat → T SV → List Item → St → Option (SV × St)} (hr : ∀ mode f ds nt tt todo s v s', r mode f ds nt tt todo s = some (v, s') → s.next ≤ s'.next) : NextOK (tasksOf cx r) := by
  intro t s v s' h
  unfold tasksOf at h
  split at h
  · split at h
    · split at h
      · split at h
        · cases h; exact Nat.le_refl _
        · split at h
          · exact hr _ _ _ _ _ _ _ _ _ h
          · cases h
      · cases h
    · cases h
  · exact hr _ _ _ _ _ _ _ _ _ h

theorem run_next : ∀ (n : Nat) (mode : Mode) (f : FuncId) (ds : List Nat) (nt : Nat) (tt : T SV) (todo : List Item) (s : St) (v : SV) (s' : St), run cx n mode f ds nt tt todo s = some (v, s') → s.next ≤ s'.next
  | 0, mode, f, ds, nt, tt, todo, s, v, s', h => by simp [run] at h
  | n + 1, mode, f, ds, nt, tt, todo, s, v, s', h => by
    have ih := run_next n
    have hn := tasks_next (cx := cx) ih
    unfold run at h
    dsimp only at h
    split at h
    · exact Nat.le_of_eq (leave_next h).symm
    · split at h
      · exact Nat.le_of_eq (leave_next h).symm
      · exact ih _ _ _ _ _ _ _ _ _ h
      · exact ih _ _ _ _ _ _ _ _ _ h
      · exact ih _ _ _ _ _ _ _ _ _ h
      · split at h
        · exact ih _ _ _ _ _ _ _ _ _ h
        · exact ih _ _ _ _ _ _ _ _ _ h
        · cases h
      · exact ih _ _ _ _ _ _ _ _ _ h
      · exact ih _ _ _ _ _ _ _ _ _ h
      · exact ih _ _ _ _ _ _ _ _ _ h
      · split at h
        · exact ih _ _ _ _ _ _ _ _ _ h
        · exact Nat.le_of_eq (leave_next h).symm
      · split at h
        · split at h
          · rename_i h1
            exact Nat.le_trans (runOps_next hn h1) (ih _ _ _ _ _ _ _ _ _ h)
          · cases h
        · split at h
          · rename_i h1
            exact Nat.le_trans (runRegion_next hn h1) (ih _ _ _ _ _ _ _ _ _ h)
          · cases h
      · split at h
        · cases h
        · split at h
          · cases h
          · split at h
            · cases h
            · cases h
            · split at h
              · cases h
              · rename_i h1
                have g1 := hn _ _ _ _ h1
                split at h
                · split at h
                  · cases h
                  · split at h
                    · rename_i h2
                      have g2 := ih _ _ _ _ _ _ _ _ _ h
                      have g3 := setLoop_next h2
                      cases mode with
                      | fn => exact Nat.le_trans (Nat.le_succ_of_le (Nat.le_succ _)) (Nat.le_trans g1 (by rw [← g3]; exact g2))
                      | round l => exact Nat.le_trans (Nat.le_succ _) (Nat.le_trans g1 (by rw [← g3]; exact g2))
                    · cases h
                · cases h
      · cases h
    · exact ih _ _ _ _ _ _ _ _ _ h
    · exact ih _ _ _ _ _ _ _ _ _ h
    · exact ih _ _ _ _ _ _ _ _ _ h
    · split at h
      · split at h
        · split at h
          · rename_i h1
            have g := ih _ _ _ _ _ _ _ _ _ h
            rw [setLoop_next h1] at g
            exact g
          · cases h
        · cases h
      · cases h
    · cases h

theorem takeAll_kp : ∀ {ds : List Nat} {s s' : St}, takeAll ds s = some s' → Kp s s'
  | [], s, s', h => by simp only [takeAll, Option.some.injEq] at h; rw [h]; exact Kp.refl _
  | d :: l, s, s', h => by
    simp only [takeAll] at h
    split at h
    · have h1 := takeAll_kp h
      exact (Kp.kill _ _).trans h1
    · cases h

theorem setLoop_kp {l : Nat} {st : LoopState} {p : Option (Option Code)} (h : setLoop s l st p = some s') : Kp s s' := by
  unfold setLoop at h
  split at h
  · rename_i hs
    cases h
    exact Kp.set hs _
  · cases h

theorem leave_kp {mode : Mode} {f : FuncId} {ds : List Nat} {tt : T SV} {jump : Option Code} {v : SV} (h : leave cx mode f ds tt s jump = some (v, s')) : Kp s s' := by
  cases mode with
  | fn =>
    simp only [leave] at h
    split at h
    · split at h
      · rename_i hs1
        simp only [Option.map_eq_some_iff, Prod.mk.injEq] at h
        obtain ⟨v', hv, rfl, rfl⟩ := h
        exact takeAll_kp hs1
      · cases h
    · cases h
  | round l =>
    simp only [leave, Option.map_eq_some_iff, Prod.mk.injEq] at h
    obtain ⟨s1, hs1, rfl, rfl⟩ := h
    exact setLoop_kp hs1

theorem tasks_kp {r : Mode → FuncId → List Nat → Nat → T SV → List Item → St → Option (SV × St)} (hr : ∀ mode f ds nt tt todo s v s', r mode f ds nt tt todo s = some (v, s') → Kp s s') : KpOK (tasksOf cx r) := by
  intro t s v s' h
  unfold tasksOf at h
  split at h
  · split at h
    · split at h
      · split at h
        · cases h; exact Kp.refl _
        · split at h
          · exact hr _ _ _ _ _ _ _ _ _ h
          · cases h
      · cases h
    · cases h
  · exact hr _ _ _ _ _ _ _ _ _ h

theorem run_kp : ∀ (n : Nat) (mode : Mode) (f : FuncId) (ds : List Nat) (nt : Nat) (tt : T SV) (todo : List Item) (s : St) (v : SV) (s' : St), run cx n mode f ds nt tt todo s = some (v, s') → Kp s s'
  | 0, mode, f, ds, nt, tt, todo, s, v, s', h => by simp [run] at h
  | n + 1, mode, f, ds, nt, tt, todo, s, v, s', h => by
    have ih := run_kp n
    have hn := tasks_kp (cx := cx) ih
    unfold run at h
    dsimp only at h
    split at h
    · exact leave_kp h
    · split at h
      · exact leave_kp h
      · exact ih _ _ _ _ _ _ _ _ _ h
      · exact ih _ _ _ _ _ _ _ _ _ h
      · exact ih _ _ _ _ _ _ _ _ _ h
      · split at h
        · exact ih _ _ _ _ _ _ _ _ _ h
        · exact ih _ _ _ _ _ _ _ _ _ h
        · cases h
      · exact ih _ _ _ _ _ _ _ _ _ h
      · exact ih _ _ _ _ _ _ _ _ _ h
      · exact ih _ _ _ _ _ _ _ _ _ h
      · split at h
        · exact ih _ _ _ _ _ _ _ _ _ h
        · exact leave_kp h
      · split at h
        · split at h
          · rename_i h1
            exact (runOps_kp hn h1).trans (ih _ _ _ _ _ _ _ _ _ h)
          · cases h
        · split at h
          · rename_i h1
            exact (runRegion_kp hn h1).trans (ih _ _ _ _ _ _ _ _ _ h)
          · cases h
      · split at h
        · cases h
        · split at h
          · cases h
          · split at h
            · cases h
            · cases h
            · split at h
              · cases h
              · rename_i h1
                have g1 := hn _ _ _ _ h1
                split at h
                · split at h
                  · cases h
                  · split at h
                    · rename_i h2
                      have g2 := ih _ _ _ _ _ _ _ _ _ h
                      have g3 := setLoop_kp h2
                      cases mode with
                      | fn => exact (Kp.new _ _).trans ((Kp.new _ _).trans (g1.trans (g3.trans g2)))
                      | round l => exact (Kp.new _ _).trans (g1.trans (g3.trans g2))
                    · cases h
                · cases h
      · cases h
    · exact ih _ _ _ _ _ _ _ _ _ h
    · exact ih _ _ _ _ _ _ _ _ _ h
    · exact ih _ _ _ _ _ _ _ _ _ h
    · split at h
      · split at h
        · split at h
          · rename_i h1
            exact (setLoop_kp h1).trans (ih _ _ _ _ _ _ _ _ _ h)
          · cases h
        · cases h
      · cases h
    · cases h
end
end Go.Proofs.YtjppaamnicknnaaDoor.Ev

namespace Go.Proofs.YtjppaamnicknnaaDoor.Ev
open Go
variable [Env]

/-- What a run of a frame comes to. -/
def RunOK (cx : Cx) (B : Nat) (r : Mode → FuncId → List Nat → Nat → T SV → List Item → St → Option (SV × St)) : Prop :=
  ∀ mode f ds nt tt todo s v s', r mode f ds nt tt todo s = some (v, s') → ∀ ρ w tmps defs ro cs, Rel cx B ρ w s → TRel ρ nt tt tmps → Fresh ρ s.next s'.next → MRel ρ mode ro ds → dconc ρ ds = some defs →
    ∃ ρ' w' cv, Out cx.P mode f (lone (fr f tmps todo defs ro) cs w) cs cv w' ∧ conc ρ' v = some cv ∧ Rel cx B ρ' w' s' ∧ Ext s s' ρ ρ' w w'

theorem argEq_ok {ρ ρ' : Nm} {a b : SV} (h : argEq a b = true) : conc ρ a = conc ρ' b := by
  unfold argEq at h
  split at h
  · simp only [Bool.and_eq_true, decide_eq_true_eq] at h
    rw [conc_lit, conc_lit, h.1, h.2]
  · rw [conc_lit, conc_lit, beq_iff_eq.1 h]
  · rw [conc_lit, conc_lit, bytes_beq h]
  · simp only [Bool.and_eq_true, decide_eq_true_eq] at h
    simp only [conc, h.1, IE.beq_ok _ _ h.2]
  · simp only [conc, SE.beq_ok _ _ h]
  · cases h

theorem argsEq_ok {ρ ρ' : Nm} : ∀ {a b : List SV}, argsEq a b = true → concs ρ a = concs ρ' b
  | [], [], _ => by simp [concs]
  | x :: a, y :: b, h => by
    simp only [argsEq, Bool.and_eq_true] at h
    simp only [concs, argEq_ok (ρ := ρ) (ρ' := ρ') h.1, argsEq_ok (ρ := ρ) (ρ' := ρ') h.2]
  | [], _ :: _, h => by cases h
  | _ :: _, [], h => by cases h

theorem knownCall_mem {f : FuncId} {args : List SV} {r : SV} : ∀ {cs : List (FuncId × List SV × SV)}, knownCall cs f args = some r → ∃ l, (f, l, r) ∈ cs ∧ argsEq l args = true
  | [], h => by cases h
  | (g, l, r') :: cs, h => by
    simp only [knownCall] at h
    split at h
    · rename_i hb
      simp only [Bool.and_eq_true] at hb
      cases h
      have := beq_eq hb.1
      subst this
      exact ⟨l, List.mem_cons_self .., hb.2⟩
    · obtain ⟨l', h1, h2⟩ := knownCall_mem h
      exact ⟨l', List.mem_cons_of_mem _ h1, h2⟩

theorem conc_none {ρ : Nm} {s : SV} {v : Value} (h : conc (fun _ => none) s = some v) : conc ρ s = some v := conc_mono (fun _ _ e => by cases e) _ _ h

theorem knownCall_ok {cx : Cx} {B : Nat} {ρ : Nm} {w : World} {s : St} {f : FuncId} {args : List SV} {r : SV} {us : List Value} (h : knownCall cx.calls f args = some r) (hu : concs ρ args = some us) (hR : Rel cx B ρ w s) :
    ∃ cv, conc ρ r = some cv ∧ Calls cx.P f us.toArray w fun e w' => e = .returned cv ∧ RowKit.Below w.heap.size w w' := by
  obtain ⟨l, h1, h2⟩ := knownCall_mem h
  obtain ⟨h3, h4, h5⟩ := cx.cok _ h1
  obtain ⟨cv, hcv⟩ := Option.isSome_iff_exists.1 h5
  refine ⟨cv, conc_none hcv, h3 w us cv (fun b i v e => (hR.old b i v e).2) ?_ hcv⟩
  rw [← hu]
  exact argsEq_ok h2

theorem Rel.below {cx : Cx} {B : Nat} {ρ : Nm} {w w' : World} {s : St} (hR : Rel cx B ρ w s) (h : RowKit.Below w.heap.size w w') : Rel cx B ρ w' s where
  obj := fun n o hn => by
    obtain ⟨b, c, ob, h1, h2, h3, h4⟩ := hR.obj n o hn
    exact ⟨b, c, ob, h1, h2, by rw [h.block b (heap_lt h3)]; exact h3, h4⟩
  inj := hR.inj
  bound := hR.bound
  old := fun b i v e => by
    obtain ⟨h1, h2⟩ := hR.old b i v e
    exact ⟨h1, by rw [cell_of_heap (w := w) (h.block b (Nat.lt_of_lt_of_le h1 hR.size))]; exact h2⟩
  size := Nat.le_trans hR.size h.size

theorem Ext.below {cx : Cx} {B : Nat} {ρ : Nm} {w w' : World} {s : St} (hR : Rel cx B ρ w s) (h : RowKit.Below w.heap.size w w') : Ext s s ρ ρ w w' where
  le := Nat.le_refl _
  sub := Sub.refl _
  dom := fun n h h' => absurd h h'
  newb := fun n b c h h' => by rw [h] at h'; cases h'
  frame := fun b hb _ => h.block b hb
  size := h.size
  tape := h.tape
  os := h.os
  output := h.output
  hid := rfl
  minw := Nat.le_refl _
  seen := fun n o h _ => ⟨o, h⟩
  keep := fun n _ _ => ⟨rfl, fun o b c hs hb => by
    obtain ⟨b', c', ob', e1, _, e3, _⟩ := hR.obj n o hs
    rw [hb] at e1; cases e1
    exact h.block b (heap_lt e3)⟩
  wr := fun _ h => h
  keepw := fun n _ _ => ⟨rfl, fun o b c hs hb => by
    obtain ⟨b', c', ob', e1, _, e3, _⟩ := hR.obj n o hs
    rw [hb] at e1; cases e1
    exact h.block b (heap_lt e3)⟩

theorem tasks_ok {cx : Cx} {B : Nat} {r : Mode → FuncId → List Nat → Nat → T SV → List Item → St → Option (SV × St)} (hr : RunOK cx B r) : OneOK cx B (tasksOf cx r) := by
  intro t s v s' h
  unfold tasksOf at h
  split at h
  · rename_i g args
    split at h
    · rename_i fn hfn
      split at h
      · rename_i c hc
        split at h
        · rename_i kv hk
          cases h
          refine ⟨fun g' args' e => by cases e; exact ⟨fn, hfn, by rw [hc]; rfl⟩, ?_⟩
          rintro ρ w hR hf fm ⟨us, hus, rfl⟩ c0 cs
          obtain ⟨cv, hcv, hC⟩ := knownCall_ok hk hus hR
          obtain ⟨e, w', fr', ⟨rfl, hb⟩, h1, _, h3⟩ := hC (c0 :: cs)
          exact ⟨ρ, w', cv, h1.trans (.one (step_leave_returned h3)), hcv, hR.below hb, Ext.below hR hb⟩
        split at h
        · rename_i hle
          refine ⟨fun g' args' e => by cases e; exact ⟨fn, hfn, by rw [hc]; rfl⟩, ?_⟩
          rintro ρ w hR hf fm ⟨us, hus, rfl⟩ c0 cs
          have hT := TRel0 hus (ble_le hle)
          obtain ⟨ρ', w', cv, ⟨fr', h1, h2, h3⟩, h4, h5, h6⟩ := hr _ _ _ _ _ _ _ _ _ h ρ w _ [] none (c0 :: cs) hR hT hf rfl rfl
          have he : Frame.enter cx.P g us.toArray .normal = fr g (us.toArray ++ Array.replicate (fn.ntmps - us.toArray.size) undef) [.code c] [] none := by
            simp [Frame.enter, hfn, hc, fr]
          rw [he]
          exact ⟨ρ', w', cv, h1.trans (.one (step_leave_returned h3)), h4, h5, h6⟩
        · cases h
      · cases h
    · cases h
  · rename_i l g nt tt as body
    refine ⟨(fun g' args' e => by cases e), ?_⟩
    rintro ρ w hR hf fm ⟨lb, lc, tmps, hl, hT, rfl⟩ c0 cs
    obtain ⟨ρ', w', cv, h1, h4, h5, h6⟩ := hr _ _ _ _ _ _ _ _ _ h ρ w tmps [] (some lb) (c0 :: cs) hR hT hf ⟨rfl, lb, lc, hl, rfl⟩ rfl
    exact ⟨ρ', w', cv, h1 c0 cs rfl, h4, h5, h6⟩

theorem getLoopD_ok {cx : Cx} {B : Nat} {ρ : Nm} {w : World} {s : St} (hR : Rel cx B ρ w s) {l d : Nat} (h : (match s.see l with | some (.loop _ _ _ _ _ _ _ _ d) => some d | _ => none) = some d) : ∃ b c r dc, ρ l = some (b, c) ∧ w.heap[b]? = some (.loop r) ∧ ρ d = some (r.defers, dc) := by
  split at h
  · rename_i st p fn nt tt params as body d' hs
    cases h
    obtain ⟨b, c, ob, h1, _, h3, tmps, db, dc, h4, h5, rfl⟩ := hR.obj l _ hs
    exact ⟨b, c, _, dc, h1, h3, h5⟩
  · cases h

theorem range_tail {cx : Cx} {B : Nat} (hG : Good cx.P) {r : Mode → FuncId → List Nat → Nat → T SV → List Item → St → Option (SV × St)} (ih : RunOK cx B r) (hrn : ∀ mode f ds nt tt todo s v s', r mode f ds nt tt todo s = some (v, s') → s.next ≤ s'.next) {mode : Mode} {f : FuncId} {ds : List Nat} {nt : Nat} {tt : T SV} {s s' s2 s3 s4 : St} {v v1 : SV} {ρ ρb : Nm} {w wb : World}
    {tmps : Array Value} {defs mark : List Deferred} {ro : Option Nat} {cs : List Frame} {k : List Item} {l lb lc : Nat} {fo : Operand} {params : Array Tmp} {as body : Code} {fv : SV} {t : Task}
    (hT : TRel ρ nt tt tmps) (hf : Fresh ρ s.next s'.next) (hfv : eval tt fo = some fv) (hRb : Rel cx B ρb wb s2) (hl : ρb l = some (lb, lc)) (hE : Ext s s2 ρ ρb w wb) (ht : target s2 fv [.yl l] = some t)
    (hnr : ∀ a1 a2 a3 a4 a5 a6, t ≠ .round a1 a2 a3 a4 a5 a6) (h1 : tasksOf cx r t s2 = some (v1, s3)) {st : LoopState} {p : Option Code} {a1 : FuncId} {a2 : Nat} {a3 : T SV} {a4 : List Tmp} {a5 a6 : Code} {a7 : Nat} (hsee : s3.see l = some (.loop st p a1 a2 a3 a4 a5 a6 a7)) (hst : st ≠ .busy)
    (hs4 : setLoop s3 l .exhausted none = some s4) (h : r mode f ds nt tt ((p.map Item.code).toList ++ k) s4 = some (v, s')) (hM : MRel ρb mode ro ds) (hd : dconc ρb ds = some (mark ++ defs))
    (henter : (Instr.enterLoop f tmps params as body ro).run cx.P w = .ok (lb, mark) wb) :
    ∃ ρ' w' cv, Out cx.P mode f (lone (fr f tmps (.code (.rangeFunc fo params as body) :: k) defs ro) cs w) cs cv w' ∧ conc ρ' v = some cv ∧ Rel cx B ρ' w' s' ∧ Ext s s' ρ ρ' w w' := by
  have hn := tasks_next (cx := cx) hrn
  have n1 := hn _ _ _ _ h1
  have n2 := setLoop_next hs4
  have n3 := hrn _ _ _ _ _ _ _ _ _ h
  obtain ⟨hfun, htask⟩ := tasks_ok ih t s2 v1 s3 h1
  have hfb : Fresh ρb s2.next s'.next := hf.step hE
  have hyl : concs ρb [.yl l] = some [.func (.yield lb) #[] #[]] := concs_cons (by simp [conc, hl]) (concs_nil _)
  have hev := conc_mono hE.sub _ _ (eval_ok (f := f) (k := []) (ds := defs) (ro := ro) hT hfv)
  obtain ⟨d, g1, g2⟩ := target_ok hG hRb ht hev hyl hfun
  rcases g2 with ⟨g, as', g3, g4⟩ | ⟨lb', g, ts, as', body', g3, g4⟩
  · obtain ⟨ρ3, w3, cv, e1, e2, e3, e4⟩ := htask ρb wb hRb (hfb.sub (Nat.le_refl _) (by omega)) _ g4 (fr f tmps (.inRangeFunc lb :: k) (mark ++ defs) ro) cs
    rw [fr_finish_loop] at e1
    have hl3 := e4.sub _ _ hl
    obtain ⟨r0, w4, q1, q2, q3, q4, q5⟩ := setLoop_ok e3 hl3 hs4
    have hw4 := q2 _ rfl
    obtain ⟨q6, q7⟩ := q5 _ _ _ _ _ _ _ _ _ hsee
    have hend : (Instr.endLoop lb).run cx.P w3 = .ok p w4 := by
      have hnb : (r0.state == LoopState.busy) = false := by
        rw [q6]
        cases st <;> first | rfl | exact absurd rfl hst
      simp only [Instr.endLoop, Sem.run_bind, run_getLoop q1, Result.andThen_ok, hnb, Bool.false_eq_true, if_false, run_setObj_loop q1, Sem.run_pure]
      rw [hw4, q7]
      rfl
    have hE4 : Ext s s4 ρ ρ3 w w4 := (hE.trans e4).trans q4
    obtain ⟨ρ', w', cv', o1, o2, o3, o4⟩ := ih _ _ _ _ _ _ _ _ _ h ρ3 w4 tmps (mark ++ defs) ro cs q3 (hT.mono hE4.sub) (hf.step hE4) (hM.mono e4.sub) (dconc_mono e4.sub hd)
    refine ⟨ρ', w', cv', o1.of_steps (.head (st_rangeFunc henter ?_ g3) (e1.trans (.one (st_endRangeFunc hend)))), o2, o3, hE4.trans o4⟩
    simp only [resolve, List.map_toArray, List.map_cons, List.map_nil]
    exact g1 wb
  · exfalso
    cases t with
    | round => exact hnr _ _ _ _ _ _ rfl
    | call g' args' =>
      obtain ⟨us, _, e⟩ := g4
      have := congrArg Frame.roundOf e
      simp [Frame.round, Frame.enter] at this

set_option maxHeartbeats 1000000 in
theorem run_ok {cx : Cx} {B : Nat} (hG : Good cx.P) : ∀ n, RunOK cx B (run cx n)
  | 0 => by intro mode f ds nt tt todo s v s' h; simp [run] at h
  | n + 1 => by
    intro mode f ds nt tt todo s v s' h ρ w tmps defs ro cs hR hT hf hM hd
    have ih := run_ok (B := B) hG n
    have hih := tasks_ok ih
    have hn := tasks_next (cx := cx) (run_next (cx := cx) n)
    have go : ∀ {todo' : List Item}, run cx n mode f ds nt tt todo' s = some (v, s') → step cx.P (lone (fr f tmps todo defs ro) cs w) = .next (lone (fr f tmps todo' defs ro) cs w) →
        ∃ ρ' w' cv, Out cx.P mode f (lone (fr f tmps todo defs ro) cs w) cs cv w' ∧ conc ρ' v = some cv ∧ Rel cx B ρ' w' s' ∧ Ext s s' ρ ρ' w w' := by
      intro todo' h' hst
      obtain ⟨ρ', w', cv, h1, h2, h3, h4⟩ := ih _ _ _ _ _ _ _ _ _ h' ρ w tmps defs ro cs hR hT hf hM hd
      exact ⟨ρ', w', cv, h1.of_steps (.one hst), h2, h3, h4⟩
    have on : ∀ {todo' : List Item} {s1 : St} {tt1 : T SV} {tmps1 : Array Value} {ρ1 : Nm} {w1 : World}, run cx n mode f ds nt tt1 todo' s1 = some (v, s') → Steps cx.P (lone (fr f tmps todo defs ro) cs w) (lone (fr f tmps1 todo' defs ro) cs w1) →
        TRel ρ1 nt tt1 tmps1 → Rel cx B ρ1 w1 s1 → Ext s s1 ρ ρ1 w w1 →
        ∃ ρ' w' cv, Out cx.P mode f (lone (fr f tmps todo defs ro) cs w) cs cv w' ∧ conc ρ' v = some cv ∧ Rel cx B ρ' w' s' ∧ Ext s s' ρ ρ' w w' := by
      intro todo' s1 tt1 tmps1 ρ1 w1 h' hst hT1 hR1 hE
      obtain ⟨ρ', w', cv, h1, h2, h3, h4⟩ := ih _ _ _ _ _ _ _ _ _ h' ρ1 w1 tmps1 defs ro cs hR1 hT1 (hf.step hE) (hM.mono hE.sub) (dconc_mono hE.sub hd)
      exact ⟨ρ', w', cv, h1.of_steps hst, h2, h3, hE.trans h4⟩
    have lv : ∀ {jump : Option Code}, leave cx mode f ds tt s jump = some (v, s') →
        (mode = .fn → jump = none ∨ jump = some .ret → step cx.P (lone (fr f tmps todo defs none) cs w) = .next (lone { fr f tmps todo defs none with mode := .returning } cs w)) →
        (∀ l c cs' v w', ro = some l → defs = [] → cs = c :: cs' → (Instr.endRound l jump).run cx.P w = .ok v w' → step cx.P (lone (fr f tmps todo defs ro) cs w) = .next (lone (c.finish v) cs' w')) →
        ∃ ρ' w' cv, Out cx.P mode f (lone (fr f tmps todo defs ro) cs w) cs cv w' ∧ conc ρ' v = some cv ∧ Rel cx B ρ' w' s' ∧ Ext s s' ρ ρ' w w' := by
      intro jump h' h1 h2
      obtain ⟨w', cv, g1, g2, g3, g4⟩ := leave_ok hR h' hT hM hd h1 h2
      exact ⟨ρ, w', cv, g1, g2, g3, g4⟩
    unfold run at h
    dsimp only at h
    split at h
    · exact lv h (fun _ _ => st_end) (fun l c cs' v w' e1 e2 e3 e4 => by subst e1; subst e2; subst e3; exact st_round_end e4)
    · rename_i k
      split at h
      · exact lv h (fun _ _ => st_ret) (fun l c cs' v w' e1 e2 e3 e4 => by subst e1; subst e2; subst e3; exact st_round_ret e4)
      · exact go h st_skip
      · exact go h st_label
      · exact go h st_seq
      · rename_i c x y
        split at h
        · rename_i hc
          have := eval_ok (f := f) (k := []) (ds := defs) (ro := ro) hT hc
          rw [conc_lit] at this
          exact go h (st_cond (t := true) (Option.some.inj this).symm)
        · rename_i hc
          have := eval_ok (f := f) (k := []) (ds := defs) (ro := ro) hT hc
          rw [conc_lit] at this
          exact go h (st_cond (t := false) (Option.some.inj this).symm)
        · cases h
      · exact go h st_block
      · exact go h st_loop
      · exact go h st_scope
      · rename_i id
        split at h
        · rename_i k' hk
          exact go h (st_exit (by rw [← exitTo_eq]; exact hk))
        · rename_i hk
          exact lv h (fun _ hj => by rcases hj with hj | hj <;> cases hj) (fun l c cs' v w' e1 e2 e3 e4 => by subst e1; subst e2; subst e3; exact st_round_exit (by rw [← exitTo_eq]; exact hk) e4)
      · rename_i id ops draw
        split at h
        · split at h
          · rename_i tt1 s1 h1
            have n2 := run_next _ _ _ _ _ _ _ _ _ _ h
            obtain ⟨ρ1, w1, tm1, g1, g2, g3, g4⟩ := runOps_ok (f := f) (k := k) (ds := defs) (ro := ro) (cs := cs) hG hih hn ops.toList 0 (fun j => by simp) h1 hR hT (hf.sub (Nat.le_refl _) n2)
            have he : List.range' 0 ops.toList.length = List.range ops.size := by rw [List.range_eq_range', Array.length_toList]
            rw [he] at g1
            exact on h (.head st_region g1) g2 g3 g4
          · cases h
        · split at h
          · rename_i tt1 s1 hfit h1
            have n2 := run_next _ _ _ _ _ _ _ _ _ _ h
            obtain ⟨ρ1, w1, tm1, g1, g2, g3, g4⟩ := region_ok (f := f) (k := k) (ds := defs) (ro := ro) (cs := cs) hG hih (tasks_kp (cx := cx) (run_kp (cx := cx) n)) hfit h1 (hR.drawn (w.drawn + 1)) hT (hf.sub (Nat.le_refl _) n2) (w.tape w.drawn (.order f id))
            refine on h (.head st_region_draw ?_) g2 g3 g4.drawn
            rw [hG.mixed]
            simp only [Region.schedule, Bool.true_or, if_true]
            exact g1
          · cases h
      · rename_i fo params as body
        split at h
        · cases h
        · rename_i fv hfv
          split at h
          · cases h
          · rename_i d hd'
            split at h
            · cases h
            · cases h
            · rename_i t hnr ht
              split at h
              · cases h
              · rename_i v1 s3 h1
                split at h
                · rename_i st p fn0 nt0 tt0 ps0 as0 body0 d0 hsee
                  split at h
                  · cases h
                  · rename_i hst
                    split at h
                    · rename_i s4 hs4
                      have n1 := hn _ _ _ _ h1
                      have n2 := setLoop_next hs4
                      have n3 := run_next _ _ _ _ _ _ _ _ _ _ h
                      cases mode with
                      | fn =>
                        obtain rfl : ro = none := hM
                        cases hd'
                        have n1' : s.next + 1 + 1 ≤ s3.next := n1
                        have hfr1 : ρ s.next = none := hf s.next (Nat.le_refl _) (by omega)
                        have hfr2 : ρ (s.next + 1) = none := hf (s.next + 1) (by omega) (by omega)
                        obtain ⟨a1, a2⟩ := new_ok hR hfr1 (ob := .deferred (some [])) (Psh.mk' (d := w.drawn)) .defd 0 rfl
                        have hfr2' : (ρ.put s.next (w.heap.size, 0)) (s.new .defd).next = none := by
                          show (ρ.put s.next (w.heap.size, 0)) (s.next + 1) = none
                          rw [Nm.put_ne _ _ (by omega)]
                          exact hfr2
                        have hsub := Nm.put_sub (ρ := ρ.put s.next (w.heap.size, 0)) (p := (({ w with heap := w.heap.push (.deferred (some [])) } : World).heap.size, 0)) hfr2'
                        have hdn : ((ρ.put s.next (w.heap.size, 0)).put (s.new .defd).next (({ w with heap := w.heap.push (.deferred (some [])) } : World).heap.size, 0)) s.next = some (w.heap.size, 0) := hsub _ _ (Nm.put_at _ _ _)
                        obtain ⟨b1, b2⟩ := new_ok a1 hfr2' (ob := .loop { state := .ready, pending := none, fn := f, tmps := tmps, params := params, assign := as, body := body, defers := w.heap.size }) (Psh.mk' (d := w.drawn)) (.loop .ready none f nt tt params.toList as body s.next) 0
                          ⟨tmps, w.heap.size, 0, (hT.mono a2.sub).mono hsub, hdn, by simp⟩
                        refine range_tail hG ih (run_next (cx := cx) n) hT hf hfv b1 (Nm.put_at _ _ _) (a2.trans b2) ht hnr h1 hsee (fun e => hst e) hs4 h rfl (mark := [{ target := .collected w.heap.size, args := #[] }]) ?_ ?_
                        · exact dconc_cons_iff.2 ⟨_, _, defs, hdn, dconc_mono (a2.sub.trans hsub) hd, rfl⟩
                        · simp [Instr.enterLoop]
                          rfl
                      | round l0 =>
                        obtain ⟨rfl, b0, c0, hb0, rfl⟩ := hM
                        have n1' : s.next + 1 ≤ s3.next := n1
                        have hfr1 : ρ s.next = none := hf s.next (Nat.le_refl _) (by omega)
                        obtain ⟨b0', c0', r0, dc, k1, k2, k3⟩ := getLoopD_ok hR hd'
                        rw [hb0] at k1
                        cases k1
                        have hsub := Nm.put_sub (p := (w.heap.size, 0)) hfr1
                        obtain ⟨b1, b2⟩ := new_ok hR hfr1 (ob := .loop { state := .ready, pending := none, fn := f, tmps := tmps, params := params, assign := as, body := body, defers := r0.defers }) (Psh.mk' (d := w.drawn)) (.loop .ready none f nt tt params.toList as body d) 0
                          ⟨tmps, r0.defers, dc, hT.mono hsub, hsub _ _ k3, by simp⟩
                        refine range_tail hG ih (run_next (cx := cx) n) hT hf hfv b1 (Nm.put_at _ _ _) b2 ht hnr h1 hsee (fun e => hst e) hs4 h ⟨rfl, b0, c0, hsub _ _ hb0, rfl⟩ (mark := []) ?_ ?_
                        · exact dconc_mono hsub hd
                        · simp [Instr.enterLoop, run_getLoop k2]
                    · cases h
                · cases h
      · cases h
    · exact go h st_inBlock
    · exact go h st_inScope
    · exact go h st_inLoop
    · rename_i k
      split at h
      · rename_i l
        obtain ⟨rfl, b, c, hb, rfl⟩ := hM
        split at h
        · rename_i hst
          split at h
          · rename_i s1 hs1
            obtain ⟨r, w1, g1, g2, g3, g4, g5⟩ := setLoop_ok hR hb hs1
            have hw := g2 _ rfl
            refine on h (.one (st_beginRound ?_)) hT g3 g4
            have hready : r.state = .ready := by
              unfold loopState at hst
              split at hst
              · rename_i hs
                cases hst
                exact (g5 _ _ _ _ _ _ _ _ _ hs).1
              · cases hst
            simp only [Instr.beginRound, Sem.run_bind, run_getLoop g1, Result.andThen_ok, run_setObj_loop g1, hready]
            rw [hw]
            rfl
          · cases h
        · cases h
      · cases h
    · cases h

/-- THE CALL: what the reckoner says of a call is what the call comes to. -/
theorem call_ok {cx : Cx} {B : Nat} (hG : Good cx.P) {n : Nat} {f : FuncId} {args : List SV} {s s' : St} {v : SV} (h : call cx n f args s = some (v, s')) {ρ : Nm} {w : World} (hR : Rel cx B ρ w s) (hf : Fresh ρ s.next s'.next) {us : List Value} (hus : concs ρ args = some us) :
    Calls cx.P f us.toArray w fun e w' => ∃ ρ' cv, e = .returned cv ∧ conc ρ' v = some cv ∧ Rel cx B ρ' w' s' ∧ Ext s s' ρ ρ' w w' := by
  unfold call at h
  split at h
  · rename_i fn hfn
    split at h
    · rename_i c hc
      split at h
      · rename_i hle
        intro cs
        have hT := TRel0 hus (ble_le hle)
        obtain ⟨ρ', w', cv, ⟨fr', h1, h2, h3⟩, h4, h5, h6⟩ := run_ok hG n _ _ _ _ _ _ _ _ _ h ρ w _ [] none cs hR hT hf rfl rfl
        have he : Frame.enter cx.P f us.toArray .normal = fr f (us.toArray ++ Array.replicate (fn.ntmps - us.toArray.size) undef) [.code c] [] none := by
          simp [Frame.enter, hfn, hc, fr]
        rw [← he] at h1
        exact ⟨.returned cv, w', fr', ⟨ρ', cv, rfl, h4, h5, h6⟩, h1, h2, h3⟩
      · cases h
    · cases h
  · cases h

/-- A call of no memory of ours, with arguments that are told by names, whose result bears no address: it returns this, and below the heap as it was nothing has turned. -/
theorem call_named {cx : Cx} (hG : Good cx.P) {n : Nat} {f : FuncId} {args : List SV} {us : List Value} (hu : concs (fun _ => none) args = some us) {s' : St} {v : SV} {r : Value} (h : call cx n f args noSt = some (v, s')) (hr : conc (fun _ => none) v = some r) {w : World} (hold : ∀ b i v, cx.old b i = some v → w.cell? ⟨b, i, none⟩ = some v) :
    Calls cx.P f us.toArray w fun e w' => e = .returned r ∧ RowKit.Below w.heap.size w w' := by
  have hR : Rel cx w.heap.size (fun _ => none) w noSt := noSt_rel (fun b i v e => by
    have hc := hold b i v e
    refine ⟨?_, hc⟩
    unfold World.cell? at hc
    split at hc
    · rename_i hb; exact heap_lt hb
    · cases hc) (Nat.le_refl _)
  refine (call_ok hG h hR (fun _ _ _ => rfl) hu).mono ?_
  rintro e w' ⟨ρ', cv, rfl, h1, _, h2⟩
  rw [conc_none hr] at h1
  cases h1
  exact ⟨rfl, h2.os, h2.tape, h2.output, h2.size, fun b hb => h2.frame b hb (fun n o c hs => by rw [noSt_see] at hs; cases hs)⟩

/-- A call of no memory of ours, whose result bears no address: it returns this, and below the heap as it was nothing has turned. -/
theorem call_closed {cx : Cx} (hG : Good cx.P) {n : Nat} {f : FuncId} {args : List Value} {s' : St} {r : Value} (h : call cx n f (args.map .lit) noSt = some (.lit r, s')) {w : World} (hold : ∀ b i v, cx.old b i = some v → w.cell? ⟨b, i, none⟩ = some v) :
    Calls cx.P f args.toArray w fun e w' => e = .returned r ∧ RowKit.Below w.heap.size w w' :=
  call_named hG (concs_lits _ _) h (conc_lit _ _) hold
end Go.Proofs.YtjppaamnicknnaaDoor.Ev
namespace Go.Proofs.YtjppaamnicknnaaDoor.Ev
open Go
variable [Env]

/-- Variables of the program whose cells are known: (block, cells). -/
def oldL : List (Nat × List Value) → Nat → Nat → Option Value
  | [], _, _ => none
  | (g, l) :: r, b, i => match Nat.beq b g with
    | true => l[i]?
    | false => oldL r b i

omit [Env] in
theorem oldL_ok {w : World} : ∀ {tabs : List (Nat × List Value)}, (∀ x ∈ tabs, ∀ i v, x.2[i]? = some v → w.cell? ⟨x.1, i, none⟩ = some v) → ∀ b i v, oldL tabs b i = some v → w.cell? ⟨b, i, none⟩ = some v
  | [], _, b, i, v, h => by simp [oldL] at h
  | (g, l) :: r, ht, b, i, v, h => by
    simp only [oldL] at h
    split at h
    · rename_i hb
      have := Nat.eq_of_beq_eq_true hb
      subst this
      exact ht _ (List.mem_cons_self ..) i v h
    · exact oldL_ok (fun x hx => ht x (List.mem_cons_of_mem _ hx)) b i v h

omit [Env] in
theorem good_of {P : Program} (hn : (P.funcs.toList.all fun fn => fn.body.isNone || !(fn.name == "runtime.NumGoroutine")) = true) (hm : P.follows .mixedOrders = true) : Good P := by
  refine ⟨fun g fn hf hb => ?_, hm⟩
  have hmem : fn ∈ P.funcs.toList := by
    have : P.funcs.toList[g]? = some fn := by rw [Array.getElem?_toList]; exact hf
    exact List.mem_of_getElem? this
  have := List.all_eq_true.1 hn fn hmem
  simp only [Bool.or_eq_true] at this
  rcases this with h | h
  · cases hbd : fn.body with
    | none => rw [hbd] at hb; cases hb
    | some c => rw [hbd] at h; cases h
  · cases hq : (fn.name == "runtime.NumGoroutine")
    · rfl
    · rw [hq] at h; cases h

/-- Whether the reckoner came to true. -/
def isTrue : Option (SV × St) → Bool
  | some (.lit (.bool true), _) => true
  | _ => false

/-- No names. -/
abbrev env0 : Env := ⟨fun _ => 0, fun _ => ⟨#[]⟩⟩

omit [Env] in
/-- AN EXAMPLE WITHOUT ARGUMENTS: where the reckoner comes to true, the call returns true, and below the heap as it was nothing has turned. -/
theorem closed_true {P : Program} (hG : Good P) {tabs : List (Nat × List Value)} {n : Nat} {f : FuncId} (h : isTrue (@call env0 (@Cx.plain env0 P (oldL tabs)) n f [] noSt) = true) {w : World} (ht : ∀ x ∈ tabs, ∀ i v, x.2[i]? = some v → w.cell? ⟨x.1, i, none⟩ = some v) :
    Calls P f #[] w fun e w' => e = .returned (.bool true) ∧ RowKit.Below w.heap.size w w' := by
  unfold isTrue at h
  split at h
  · rename_i s' hs
    exact @call_closed env0 (@Cx.plain env0 P (oldL tabs)) hG _ _ [] _ _ hs _ (oldL_ok ht)
  · cases h

/-- A CALL WITH NAMED ARGUMENTS: where the reckoner comes to true, the call returns true, and below the heap as it was nothing has turned. -/
theorem named_true {cx : Cx} (hG : Good cx.P) {n : Nat} {f : FuncId} {args : List SV} {us : List Value} (hu : concs (fun _ => none) args = some us) (h : isTrue (call cx n f args noSt) = true) {w : World} (hold : ∀ b i v, cx.old b i = some v → w.cell? ⟨b, i, none⟩ = some v) :
    Calls cx.P f us.toArray w fun e w' => e = .returned (.bool true) ∧ RowKit.Below w.heap.size w w' := by
  unfold isTrue at h
  split at h
  · rename_i s' hs
    exact call_named hG hu hs (conc_lit _ _) hold
  · cases h
end Go.Proofs.YtjppaamnicknnaaDoor.Ev
