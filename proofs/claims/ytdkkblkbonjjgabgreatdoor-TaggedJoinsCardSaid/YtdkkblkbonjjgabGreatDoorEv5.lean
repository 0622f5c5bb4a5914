/- The reckoner: regions that draw their order; frames; what it says of a call is what the call comes to. Conditions: those of each lemma. -/
import Derived.Test.YtdkkblkbonjjgabGreatDoorEv4
set_option linter.unusedSectionVars false
namespace Go.Proofs.YtdkkblkbonjjgabGreatDoor.Ev
open Go
variable [Env]

section
variable (cx : Cx) (B : Nat) (ih : Runs) (nt : Nat) (L : List Oper) (ad : Bool) (cl : List Did) (T : Tr)

def dstOf (j : Nat) : Option Tmp := (L[j]?).bind (·.dst)

def Touch (j nm : Nat) : Prop := Made cx ih nt L ad cl T j nm ∨ Wrote cx ih nt L ad cl T j nm

/-- Behind which operation a block stands as it stands now, when the operations of In have been carried out; entries that literals put into maps are told apart. -/
def Cur (In : Nat → Prop) (nm k : Nat) : Prop := k ≤ L.length ∧ (k = 0 ∨ ∃ j, k = j + 1 ∧ In j ∧ Touch cx ih nt L ad cl T j nm) ∧ ∀ j, In j → Touch cx ih nt L ad cl T j nm → j < k

/-- What has been put into a map by literals since then. -/
inductive Put (In : Nat → Prop) (nm k : Nat) : Nat → List (Value × SV) → Prop where
  | nil : Put In nm k k []
  | add {m : Nat} {l : List (Value × SV)} {kt : TypeId} {e : Value × SV} : Put In nm k m l → In m → Adds cx L ad cl T m nm kt e → Put In nm k (m + 1) (l ++ [e])
  | skip {m : Nat} {l : List (Value × SV)} : Put In nm k m l → (In m → ∀ kt e, ¬ Adds cx L ad cl T m nm kt e) → Put In nm k (m + 1) l

/-- What has become of the world since the region began. -/
structure Since (ρ0 : Nm) (w0 : World) (ρ : Nm) (w : World) : Prop where
  sub : Sub ρ0 ρ
  dom : ∀ n, ρ0 n = none → ρ n ≠ none → (T.st 0).next ≤ n ∧ n < (T.st L.length).next
  newb : ∀ n b c, ρ0 n = none → ρ n = some (b, c) → w0.heap.size ≤ b ∨ ∃ m o c', (T.st 0).see m = some o ∧ ρ0 m = some (b, c')
  frame : ∀ b, b < w0.heap.size → (∀ n o c, (T.st 0).see n = some o → ρ0 n ≠ some (b, c)) → w.heap[b]? = w0.heap[b]?
  size : w0.heap.size ≤ w.heap.size
  tape : w.tape = w0.tape
  os : w.os = w0.os
  output : w.output = w0.output
  keepw : ∀ n o b c, n ∉ (T.st L.length).wr → n < (T.st 0).next → (T.st 0).see n = some o → ρ0 n = some (b, c) → w.heap[b]? = w0.heap[b]?
end

/-- A block with what has been put into it. -/
def withE : Option SO → List (Value × SV) → Option SO
  | some (.map kt es), l => some (.map kt (es ++ l))
  | x, [] => x
  | _, _ :: _ => none

theorem withE_nil (x : Option SO) : withE x [] = x := by
  cases x with
  | none => rfl
  | some o => cases o <;> simp [withE]
theorem withE_map {x : Option SO} {l : List (Value × SV)} {kt : TypeId} {es : List (Value × SV)} (h : withE x l = some (.map kt es)) : ∃ es0, x = some (.map kt es0) ∧ es = es0 ++ l := by
  cases x with
  | none => cases l <;> simp [withE] at h
  | some o =>
    cases o with
    | map kt0 es0 =>
      simp only [withE, Option.some.injEq, SO.map.injEq] at h
      obtain ⟨rfl, rfl⟩ := h
      exact ⟨es0, rfl, rfl⟩
    | _ => cases l <;> simp [withE] at h
theorem withE_snoc {x : Option SO} {l : List (Value × SV)} {kt : TypeId} {es : List (Value × SV)} {e : Value × SV} (h : withE x l = some (.map kt es)) : withE x (l ++ [e]) = some (.map kt (es ++ [e])) := by
  obtain ⟨es0, rfl, rfl⟩ := withE_map h
  simp [withE]

section
variable (cx : Cx) (B : Nat) (ih : Runs) (nt : Nat) (L : List Oper) (ad : Bool) (cl : List Did) (T : Tr)

structure Inv (ρ0 : Nm) (w0 : World) (In : Nat → Prop) (ρ : Nm) (w : World) (ta : Array Value) : Prop where
  tsize : ta.size = nt
  slots : ∀ t j, In j → dstOf L j = some t → ∃ cv, conc ρ (T.vl j) = some cv ∧ ta[t]? = some cv
  olds : ∀ t sv, (∀ j, In j → dstOf L j ≠ some t) → (T.ts 0).get t = some sv → ∃ cv, conc ρ sv = some cv ∧ ta[t]? = some cv
  objs : ∀ nm k l o, Cur cx ih nt L ad cl T In nm k → Put cx L ad cl T In nm k L.length l → withE ((T.st k).see nm) l = some o → ∃ b c ob, ρ nm = some (b, c) ∧ B ≤ b ∧ w.heap[b]? = some ob ∧ ORel ρ c o ob
  inj : ∀ n m k k' l l' o o' b c c', Cur cx ih nt L ad cl T In n k → Cur cx ih nt L ad cl T In m k' → Put cx L ad cl T In n k L.length l → Put cx L ad cl T In m k' L.length l' →
    withE ((T.st k).see n) l = some o → withE ((T.st k').see m) l' = some o' → ρ n = some (b, c) → ρ m = some (b, c') → n = m
  fresh : ∀ j, Loud cx ih nt L ad cl T j → ¬ In j → Fresh ρ (T.st j).next (T.st (j + 1)).next
  old : ∀ b i v, cx.old b i = some v → b < B ∧ w.cell? ⟨b, i, none⟩ = some v
  wsize : B ≤ w.heap.size
  since : Since L T ρ0 w0 ρ w

def Closed (In : Nat → Prop) : Prop := ∀ j, In j → ∀ m, Nat.testBit (anc L j) m = true → In m
end

section
variable {cx : Cx} {B : Nat} {ih : Runs} {nt : Nat} {L : List Oper} {ad : Bool} {cl : List Did} {T : Tr} {ρ0 ρ : Nm} {w0 w : World} {In : Nat → Prop} {ta : Array Value}

theorem touch_lt {j nm : Nat} (h : Touch cx ih nt L ad cl T j nm) : j < L.length := by
  rcases h with h | h
  · exact loud_lt h.1
  · exact loud_lt h.1
theorem touch_loud {j nm : Nat} (h : Touch cx ih nt L ad cl T j nm) : Loud cx ih nt L ad cl T j := by
  rcases h with h | h
  · exact h.1
  · exact h.1

theorem adds_adder {j nm : Nat} {kt : TypeId} {e : Value × SV} (h : Adds cx L ad cl T j nm kt e) (hp : ∀ o, L[j]? = some o → putT nt (T.ts j) o.dst (T.vl j) = some (T.ts (j + 1))) : Adder cx nt L ad cl T j := by
  obtain ⟨o, ho, hw, h1, h2, hv, es, h3, h4, h5, h6⟩ := h
  refine ⟨o, ho, hw, h1, h2, hv, hp o ho, nm, kt, e.1, e.2, es, h3, ?_, h6⟩
  rw [h4, h6]; rfl

theorem Whole.put (W : Whole cx ih nt L ad cl T) {i : Nat} {o : Oper} (ho : L[i]? = some o) : putT nt (T.ts i) o.dst (T.vl i) = some (T.ts (i + 1)) := by
  rcases W.step i o ho with ⟨_, _, _, h, _⟩ | ⟨_, _, h, _⟩ | ⟨_, _, s', _, h, _⟩ | ⟨_, _, _, _, h, _⟩
  · exact h
  · exact h
  · exact h
  · exact h

theorem Whole.quietAdds (W : Whole cx ih nt L ad cl T) {j nm : Nat} {kt : TypeId} {e : Value × SV} (h : ¬ Adder cx nt L ad cl T j) : ¬ Adds cx L ad cl T j nm kt e := fun ha => h (adds_adder ha fun _ ho => W.put ho)

theorem adds_one {j nm nm' : Nat} {kt kt' : TypeId} {e e' : Value × SV} (h : Adds cx L ad cl T j nm kt e) (h' : Adds cx L ad cl T j nm' kt' e') : nm' = nm ∧ kt' = kt ∧ e' = e := by
  obtain ⟨o, ho, _, _, _, _, es, h3, _⟩ := h
  obtain ⟨o', ho', _, _, _, _, es', h3', _⟩ := h'
  rw [ho] at ho'
  cases ho'
  rw [h3] at h3'
  simp only [Option.some.injEq, Prod.mk.injEq] at h3'
  obtain ⟨rfl, rfl, g1, g2, _⟩ := h3'
  exact ⟨rfl, rfl, Prod.ext g1.symm g2.symm⟩

theorem cur_exists (In : Nat → Prop) (nm : Nat) : ∃ k, Cur cx ih nt L ad cl T In nm k := by
  have key : ∀ m, ∃ k, k ≤ m ∧ (k = 0 ∨ ∃ j, k = j + 1 ∧ In j ∧ Touch cx ih nt L ad cl T j nm) ∧ ∀ j, j < m → In j → Touch cx ih nt L ad cl T j nm → j < k := by
    intro m
    induction m with
    | zero => exact ⟨0, Nat.le_refl _, .inl rfl, fun j hj => by omega⟩
    | succ m IH =>
      by_cases h : In m ∧ Touch cx ih nt L ad cl T m nm
      · exact ⟨m + 1, Nat.le_refl _, .inr ⟨m, rfl, h.1, h.2⟩, fun j hj _ _ => hj⟩
      · obtain ⟨k, h1, h2, h3⟩ := IH
        refine ⟨k, by omega, h2, fun j hj hi ht => ?_⟩
        by_cases e : j = m
        · subst e; exact absurd ⟨hi, ht⟩ h
        · exact h3 j (by omega) hi ht
  obtain ⟨k, h1, h2, h3⟩ := key L.length
  exact ⟨k, h1, h2, fun j hi ht => h3 j (touch_lt ht) hi ht⟩

theorem put_exists (In : Nat → Prop) (nm k : Nat) : ∀ d, ∃ l, Put cx L ad cl T In nm k (k + d) l
  | 0 => ⟨[], .nil⟩
  | d + 1 => by
    obtain ⟨l, h⟩ := put_exists In nm k d
    by_cases ha : In (k + d) ∧ ∃ kt e, Adds cx L ad cl T (k + d) nm kt e
    · obtain ⟨hi, kt, e, ha⟩ := ha
      exact ⟨_, .add h hi ha⟩
    · exact ⟨l, .skip h fun hi kt e he => ha ⟨hi, kt, e, he⟩⟩
theorem put_upto (In : Nat → Prop) (nm : Nat) {k m : Nat} (h : k ≤ m) : ∃ l, Put cx L ad cl T In nm k m l := by
  obtain ⟨l, hl⟩ := put_exists (cx := cx) (L := L) (ad := ad) (cl := cl) (T := T) In nm k (m - k)
  rw [show k + (m - k) = m by omega] at hl
  exact ⟨l, hl⟩
theorem both_exist (In : Nat → Prop) (nm : Nat) : ∃ k l, Cur cx ih nt L ad cl T In nm k ∧ Put cx L ad cl T In nm k L.length l := by
  obtain ⟨k, hk⟩ := cur_exists (cx := cx) (ih := ih) (nt := nt) (L := L) (ad := ad) (cl := cl) (T := T) In nm
  obtain ⟨l, hl⟩ := put_upto (cx := cx) (L := L) (ad := ad) (cl := cl) (T := T) In nm hk.1
  exact ⟨k, l, hk, hl⟩

theorem put_cut {nm k i : Nat} (hki : k ≤ i) : ∀ {M : Nat} {l : List (Value × SV)}, Put cx L ad cl T In nm k M l → i ≤ M → (∀ m, i ≤ m → m < M → In m → ∀ kt e, ¬ Adds cx L ad cl T m nm kt e) → Put cx L ad cl T In nm k i l := by
  intro M l h
  induction h with
  | nil => intro h1 _; have : i = k := by omega
           subst this; exact .nil
  | @add m l kt e h hi ha IH =>
    intro h1 h2
    by_cases e' : i = m + 1
    · subst e'; exact .add h hi ha
    · exact absurd ha (h2 m (by omega) (by omega) hi kt e)
  | @skip m l h hs IH =>
    intro h1 h2
    by_cases e' : i = m + 1
    · subst e'; exact .skip h hs
    · exact IH (by omega) (fun j g1 g2 => h2 j g1 (by omega))

theorem put_none {nm k : Nat} : ∀ {M : Nat} {l : List (Value × SV)}, Put cx L ad cl T In nm k M l → (∀ m, k ≤ m → In m → ∀ kt e, ¬ Adds cx L ad cl T m nm kt e) → l = [] := by
  intro M l h
  have hle : ∀ {M : Nat} {l : List (Value × SV)}, Put cx L ad cl T In nm k M l → k ≤ M := by
    intro M l h
    induction h with
    | nil => exact Nat.le_refl _
    | add _ _ _ IH => omega
    | skip _ _ IH => omega
  induction h with
  | nil => intro _; rfl
  | @add m l kt e h hi ha IH => intro h2; exact absurd ha (h2 m (hle h) hi kt e)
  | skip h hs IH => exact IH

theorem put_le {nm k : Nat} {M : Nat} {l : List (Value × SV)} (h : Put cx L ad cl T In nm k M l) : k ≤ M := by
  induction h with
  | nil => exact Nat.le_refl _
  | add _ _ _ IH => omega
  | skip _ _ IH => omega

/-- Everything that is put lies in the list. -/
theorem put_mem {nm k : Nat} : ∀ {M : Nat} {l : List (Value × SV)}, Put cx L ad cl T In nm k M l → ∀ j kt e, k ≤ j → j < M → In j → Adds cx L ad cl T j nm kt e → e ∈ l := by
  intro M l h
  induction h with
  | nil => intro j kt e h1 h2; omega
  | @add m l kt e h hi ha IH =>
    intro j kt' e' h1 h2 h3 h4
    by_cases e1 : j = m
    · subst e1
      rw [(adds_one ha h4).2.2]
      exact List.mem_append_right _ (List.mem_singleton.2 rfl)
    · exact List.mem_append_left _ (IH j kt' e' h1 (by omega) h3 h4)
  | @skip m l h hs IH =>
    intro j kt' e' h1 h2 h3 h4
    by_cases e1 : j = m
    · subst e1; exact absurd h4 (hs h3 kt' e')
    · exact IH j kt' e' h1 (by omega) h3 h4

/-- Whatever lies in the list was put. -/
theorem mem_put {nm k : Nat} : ∀ {M : Nat} {l : List (Value × SV)}, Put cx L ad cl T In nm k M l → ∀ e ∈ l, ∃ j kt, k ≤ j ∧ j < M ∧ In j ∧ Adds cx L ad cl T j nm kt e := by
  intro M l h
  induction h with
  | nil => intro e he; cases he
  | @add m l kt e h hi ha IH =>
    intro e' he
    rcases List.mem_append.1 he with he | he
    · obtain ⟨j, kt', h1, h2, h3⟩ := IH e' he
      exact ⟨j, kt', h1, by omega, h3⟩
    · rw [List.mem_singleton.1 he]
      exact ⟨m, kt, put_le h, by omega, hi, ha⟩
  | @skip m l h hs IH =>
    intro e' he
    obtain ⟨j, kt', h1, h2, h3⟩ := IH e' he
    exact ⟨j, kt', h1, by omega, h3⟩

theorem Whole.hid (W : Whole cx ih nt L ad cl T) {i : Nat} (hi : i ≤ L.length) : (T.st i).hid = (T.st 0).hid := (W.kp' (Nat.zero_le _) hi).hid

theorem Whole.seeSame (W : Whole cx ih nt L ad cl T) {i nm : Nat} (hi : i < L.length) (h1 : ¬ Touch cx ih nt L ad cl T i nm) (h3 : ∀ kt e, ¬ Adds cx L ad cl T i nm kt e) : (T.st (i + 1)).see nm = (T.st i).see nm := by
  unfold St.see
  rw [W.same hi (fun h => h1 (.inl h)) (fun h => h1 (.inr h)) h3, (W.kp1 hi).hid]

theorem set_see {s : St} {n : Nat} {o0 : SO} (h : s.see n = some o0) (o : SO) : (s.set n o).see n = some o := by
  obtain ⟨h1, _⟩ := see_iff.1 h
  exact see_iff.2 ⟨h1, by simp [St.set, Ev.T.get_put]⟩

/-- Between what one who touches the block sees, entries alone are put. -/
theorem put_see (W : Whole cx ih nt L ad cl T) {nm k i : Nat} (hi : i ≤ L.length) (hno : ∀ j, k ≤ j → j < i → ¬ Touch cx ih nt L ad cl T j nm) (hin : ∀ j, k ≤ j → j < i → ∀ kt e, Adds cx L ad cl T j nm kt e → In j) :
    ∀ {m : Nat} {l : List (Value × SV)}, Put cx L ad cl T In nm k m l → m ≤ i → withE ((T.st k).see nm) l = (T.st m).see nm := by
  intro m l h
  induction h with
  | nil => intro _; exact withE_nil _
  | @add m l kt e h hIn ha IH =>
    intro hm
    have ih' := IH (by omega)
    obtain ⟨o, ho, _, _, _, _, es, _, _, h5, h6⟩ := ha
    rw [h5] at ih'
    rw [withE_snoc ih', h6, set_see h5]
  | @skip m l h hs IH =>
    intro hm
    have hle := put_le h
    rw [IH (by omega), W.seeSame (by omega) (hno m hle (by omega)) (fun kt e ha => hs (hin m hle (by omega) kt e ha) kt e ha)]

/-- The state that the reckoner gives an operation. -/
def Tr.given (T : Tr) (L : List Oper) (cl : List Did) (i : Nat) : St := { T.st i with hid := hides (anc L i) (T.rn i) ++ (claimed (ancs L) i (anc L i) (T.st i).next cl ++ (T.st i).hid), wr := [] }

theorem given_see {i nm : Nat} {o : SO} : (T.given L cl i).see nm = some o ↔ hidden (hides (anc L i) (T.rn i)) nm = false ∧ hidden (claimed (ancs L) i (anc L i) (T.st i).next cl) nm = false ∧ hidden (T.st i).hid nm = false ∧ (T.st i).heap.get nm = some o := by
  rw [see_iff]
  unfold Tr.given
  dsimp only
  rw [hidden_append, hidden_append, Bool.or_eq_false_iff, Bool.or_eq_false_iff, and_assoc, and_assoc]

/-- An operation has been noted as having written a name. -/
def Marks (T : Tr) (j nm : Nat) : Prop := ∃ ws, T.rn (j + 1) = (j, (T.st j).next, (T.st (j + 1)).next, ws) :: T.rn j ∧ nm ∈ ws

theorem adds_marks {j nm : Nat} {kt : TypeId} {e : Value × SV} (h : Adds cx L ad cl T j nm kt e) : Marks T j nm := by
  obtain ⟨o, _, _, _, _, _, es, _, h4, _⟩ := h
  exact ⟨_, h4, List.mem_singleton.2 rfl⟩

/-- Of two operations, one of which sees what the other has made or written, one is ahead of the other by edges. -/
theorem conflict0 (W : Whole cx ih nt L ad cl T) {c : List Did} {i j nm : Nat} {o : SO} (hlt : i < L.length) (hrn : ∃ ws, T.rn (i + 1) = (i, (T.st i).next, (T.st (i + 1)).next, ws) :: T.rn i) (h1 : hidden (hides (anc L i) (T.rn i)) nm = false)
    (h2 : hidden (claimed (ancs L) i (anc L i) (T.st i).next c) nm = false) (h4 : (T.st i).heap.get nm = some o) (hjl : j < L.length) (ht : Made cx ih nt L ad cl T j nm ∨ Marks T j nm) (hc : ∀ d, (j, d) ∈ cl → (j, d) ∈ c) (hne : j ≠ i) :
    Nat.testBit (anc L i) j = true ∨ Nat.testBit (anc L j) i = true := by
  have hn := W.raw_lt (by omega) h4
  rcases ht with ⟨hlj, m1, m2⟩ | ⟨ws, m2, m3⟩
  · have hji : j < i := by
      by_cases h : j < i
      · exact h
      · have := (W.kp' (i := i) (j := j) (by omega) (by omega)).le
        omega
    cases hb : Nat.testBit (anc L i) j
    · obtain ⟨ws, hh⟩ := W.head hlj
      rw [hides_hidden ((W.mem_rn i (by omega) _).2 ⟨j, hji, ws, hh, rfl⟩) hb m1 m2] at h1
      cases h1
    · exact .inl rfl
  · have hmem := (W.mem_rn L.length (Nat.le_refl _) _).2 ⟨j, hjl, ws, m2, rfl⟩
    rcases calm_mem W.calm j _ _ ws hmem nm m3 with h | ⟨lo, hi, ws', g1, g2⟩
    · obtain ⟨wi, hi'⟩ := hrn
      rcases allTied_mem h i _ _ _ ((W.mem_rn L.length (Nat.le_refl _) _).2 ⟨i, hlt, wi, hi', rfl⟩) with e | e
      · exact absurd e.symm hne
      · exact (tied_cases e).symm
    · cases hb : tied (ancs L) i (anc L i) j
      · rw [claimed_hidden (hc _ g1) g2 hn (Ne.symm hne) hb] at h2
        cases h2
      · exact tied_cases hb

theorem touch_marks {j nm : Nat} (h : Touch cx ih nt L ad cl T j nm) : Made cx ih nt L ad cl T j nm ∨ Marks T j nm := h.imp_right fun ⟨_, _, h⟩ => h

theorem conflict (W : Whole cx ih nt L ad cl T) {i j nm : Nat} {o : SO} (hl : Loud cx ih nt L ad cl T i) (hs : (T.given L cl i).see nm = some o) (hjl : j < L.length) (ht : Made cx ih nt L ad cl T j nm ∨ Marks T j nm) (hne : j ≠ i) :
    Nat.testBit (anc L i) j = true ∨ Nat.testBit (anc L j) i = true := by
  obtain ⟨h1, h2, h3, h4⟩ := given_see.1 hs
  exact conflict0 W (loud_lt hl) (W.head hl) h1 h2 h4 hjl ht (fun _ h => h) hne

/-- The same of one that puts an entry into a map, and one that touches the map otherwise. -/
theorem conflictA (W : Whole cx ih nt L ad cl T) {i j nm : Nat} {kt : TypeId} {e : Value × SV} (ha : Adds cx L ad cl T i nm kt e) (ht : Touch cx ih nt L ad cl T j nm) : Nat.testBit (anc L i) j = true ∨ Nat.testBit (anc L j) i = true := by
  have hlt := adds_lt ha
  have hadd := adds_adder ha fun _ ho => W.put ho
  have hne : j ≠ i := fun e' => by subst e'; exact not_both (touch_loud ht) hadd
  obtain ⟨o, ho, _, hd, _, _, es, h3, h4, h5, _⟩ := ha
  rw [← List.append_assoc] at h3
  obtain ⟨_, _, _, _, _, _, _, _, _, _, _, hs, _⟩ := addOne_ok h3
  rw [List.append_assoc] at hs
  obtain ⟨g1, g2⟩ := see_iff.1 hs
  have g1 : hidden (hides (anc L i) (T.rn i) ++ (claimed (ancs L) i (anc L i) (T.st i).next (noIns L cl) ++ (T.st i).hid)) nm = false := g1
  rw [hidden_append, hidden_append, Bool.or_eq_false_iff, Bool.or_eq_false_iff] at g1
  refine conflict0 W hlt ⟨_, h4⟩ g1.1 g1.2.1 g2 (touch_lt ht) (touch_marks ht) (fun d hmem => noIns_mem hmem ?_) hne
  obtain ⟨oj, hoj, _, hq, _⟩ := touch_loud ht
  exact ⟨oj, hoj, hq hd⟩

/-- What an operation writes it sees. -/
theorem wrote_saw (W : Whole cx ih nt L ad cl T) {i nm : Nat} (h : Wrote cx ih nt L ad cl T i nm) : ∃ o, (T.given L cl i).see nm = some o := by
  obtain ⟨hl, h1, ws, h2, h3⟩ := h
  obtain ⟨o, ho, _, _, s', g1, _, g2, g3⟩ := hl
  rw [h2] at g2
  simp only [List.cons.injEq, Prod.mk.injEq, true_and, and_true] at g2
  obtain ⟨_, rfl⟩ := g2
  rcases (oneOp_kp W.kp g1).saw nm (mem_eldest.1 h3).1 with h | h | h
  · cases h
  · have h : (T.st i).next ≤ nm := h
    omega
  · exact h

theorem before (W : Whole cx ih nt L ad cl T) (hC : Closed L In) {i j nm : Nat} {o : SO} (hl : Loud cx ih nt L ad cl T i) (hi : ¬ In i) (hs : (T.given L cl i).see nm = some o) (hj : In j) (hjl : j < L.length) (ht : Made cx ih nt L ad cl T j nm ∨ Marks T j nm) : j < i := by
  have hne : j ≠ i := fun e => hi (by rw [← e]; exact hj)
  rcases conflict W hl hs hjl ht hne with h | h
  · exact W.anc_lt i (loud_lt hl) j h
  · exact absurd (hC j hj i h) hi

/-- What an operation sees stands as it stands now. -/
theorem given_cur (W : Whole cx ih nt L ad cl T) (hC : Closed L In) {i : Nat} (hl : Loud cx ih nt L ad cl T i) (hi : ¬ In i) (hanc : ∀ m, Nat.testBit (anc L i) m = true → In m) {nm k : Nat} {l : List (Value × SV)} {o : SO} (h : (T.given L cl i).see nm = some o)
    (hk : Cur cx ih nt L ad cl T In nm k) (hp : Put cx L ad cl T In nm k L.length l) : withE ((T.st k).see nm) l = some o := by
  have hlt := loud_lt hl
  obtain ⟨h1, h2, h3, h4⟩ := given_see.1 h
  have hki : k ≤ i := by
    rcases hk.2.1 with e | ⟨j, e, hj, ht⟩
    · omega
    · have := before W hC hl hi h hj (touch_lt ht) (touch_marks ht)
      omega
  have hno : ∀ j, k ≤ j → j < i → ¬ Touch cx ih nt L ad cl T j nm := by
    intro j a b ht
    rcases conflict W hl h (touch_lt ht) (touch_marks ht) (by omega) with h' | h'
    · have := hk.2.2 j (hanc j h') ht
      omega
    · have := W.anc_lt j (by omega) i h'
      omega
  have hin : ∀ j, k ≤ j → j < i → ∀ kt e, Adds cx L ad cl T j nm kt e → In j := by
    intro j a b kt e ha
    rcases conflict W hl h (adds_lt ha) (.inr (adds_marks ha)) (by omega) with h' | h'
    · exact hanc j h'
    · have := W.anc_lt j (by omega) i h'
      omega
  have hcut := put_cut hki hp (by omega) (fun m a _ hm kt e ha => by
    have := before W hC hl hi h hm (adds_lt ha) (.inr (adds_marks ha))
    omega)
  rw [put_see W (by omega) hno hin hcut (Nat.le_refl _)]
  exact see_iff.2 ⟨h3, h4⟩

/-- The world as an operation meets it. -/
theorem given_rel (W : Whole cx ih nt L ad cl T) (hC : Closed L In) (hI : Inv cx B ih nt L ad cl T ρ0 w0 In ρ w ta) {i : Nat} (hl : Loud cx ih nt L ad cl T i) (hi : ¬ In i) (hanc : ∀ m, Nat.testBit (anc L i) m = true → In m) :
    Rel cx B ρ w (T.given L cl i) := by
  have hlt := loud_lt hl
  refine ⟨fun nm o h => ?_, fun n m o o' b c c' h1 h2 h3 h4 => ?_, fun nm o h => W.raw_lt (by omega) h, hI.old, hI.wsize⟩
  · obtain ⟨k, l, hk, hp⟩ := both_exist (cx := cx) (ih := ih) (nt := nt) (L := L) (ad := ad) (cl := cl) (T := T) In nm
    exact hI.objs nm k l o hk hp (given_cur W hC hl hi hanc h hk hp)
  · obtain ⟨k, l, hk, hp⟩ := both_exist (cx := cx) (ih := ih) (nt := nt) (L := L) (ad := ad) (cl := cl) (T := T) In n
    obtain ⟨k', l', hk', hp'⟩ := both_exist (cx := cx) (ih := ih) (nt := nt) (L := L) (ad := ad) (cl := cl) (T := T) In m
    exact hI.inj n m k k' l l' o o' b c c' hk hk' hp hp' (given_cur W hC hl hi hanc h1 hk hp) (given_cur W hC hl hi hanc h2 hk' hp') h3 h4
end
end Go.Proofs.YtdkkblkbonjjgabGreatDoor.Ev

namespace Go.Proofs.YtdkkblkbonjjgabGreatDoor.Ev
open Go
variable [Env]

section
variable {cx : Cx} {B : Nat} {ih : Runs} {nt : Nat} {L : List Oper} {ad : Bool} {cl : List Did} {T : Tr} {ρ0 ρ ρ' : Nm} {w0 w w' : World} {In : Nat → Prop} {ta : Array Value}

/-- One more has been carried out. -/
def And1 (In : Nat → Prop) (i : Nat) : Nat → Prop := fun j => In j ∨ j = i

/-- The slots behind an operation. -/
theorem inv_slots (hd : ∀ j k t, j ≠ k → dstOf L j = some t → dstOf L k ≠ some t) {i : Nat} {o : Oper} (ho : L[i]? = some o) {cv : Value} (hts : ta.size = nt) (hp : ∃ t1, putT nt (T.ts i) o.dst (T.vl i) = some t1) (hv : conc ρ' (T.vl i) = some cv) (hs : Sub ρ ρ')
    (h1 : ∀ t j, In j → dstOf L j = some t → ∃ cv, conc ρ (T.vl j) = some cv ∧ ta[t]? = some cv) (h2 : ∀ t sv, (∀ j, In j → dstOf L j ≠ some t) → (T.ts 0).get t = some sv → ∃ cv, conc ρ sv = some cv ∧ ta[t]? = some cv) (hi : ¬ In i) :
    (putA ta o.dst cv).size = nt ∧ (∀ t j, And1 In i j → dstOf L j = some t → ∃ cv', conc ρ' (T.vl j) = some cv' ∧ (putA ta o.dst cv)[t]? = some cv') ∧
      (∀ t sv, (∀ j, And1 In i j → dstOf L j ≠ some t) → (T.ts 0).get t = some sv → ∃ cv', conc ρ' sv = some cv' ∧ (putA ta o.dst cv)[t]? = some cv') := by
  have hdi : dstOf L i = o.dst := by simp [dstOf, ho]
  have hget : ∀ t, o.dst ≠ some t → (putA ta o.dst cv)[t]? = ta[t]? := by
    intro t ht
    cases hdst : o.dst with
    | none => rfl
    | some d =>
      have : d ≠ t := fun e => ht (by rw [hdst, e])
      simp [putA, this]
  refine ⟨?_, ?_, ?_⟩
  · cases o.dst <;> simp [putA, hts]
  · intro t j hj hdj
    by_cases e : j = i
    · subst e
      rw [hdi] at hdj
      obtain ⟨t1, hp⟩ := hp
      rw [hdj] at hp ⊢
      simp only [putT] at hp
      split at hp
      · rename_i hlt
        have := blt_lt hlt
        exact ⟨cv, hv, by simp [putA, hts, this]⟩
      · cases hp
    · rcases hj with hj | hj
      · obtain ⟨cv', g1, g2⟩ := h1 t j hj hdj
        exact ⟨cv', conc_mono hs _ _ g1, by rw [hget t (by rw [← hdi]; exact hd j i t e hdj)]; exact g2⟩
      · exact absurd hj e
  · intro t sv hno hsv
    obtain ⟨cv', g1, g2⟩ := h2 t sv (fun j hj => hno j (.inl hj)) hsv
    exact ⟨cv', conc_mono hs _ _ g1, by rw [hget t (by rw [← hdi]; exact hno i (.inr rfl))]; exact g2⟩

theorem old_same (h : ∀ b i v, cx.old b i = some v → b < B ∧ w.cell? ⟨b, i, none⟩ = some v) (hB : B ≤ w.heap.size) (hf : ∀ b, b < w.heap.size → w'.heap[b]? = w.heap[b]?) :
    ∀ b i v, cx.old b i = some v → b < B ∧ w'.cell? ⟨b, i, none⟩ = some v := fun b i v e =>
  ⟨(h b i v e).1, by rw [cell_of_heap (w := w) (hf b (by have := (h b i v e).1; omega))]; exact (h b i v e).2⟩

theorem cur_off {i nm k : Nat} (hno : ¬ Touch cx ih nt L ad cl T i nm) (h : Cur cx ih nt L ad cl T (And1 In i) nm k) : Cur cx ih nt L ad cl T In nm k := by
  refine ⟨h.1, ?_, fun j hj ht => h.2.2 j (.inl hj) ht⟩
  rcases h.2.1 with e | ⟨j, e, hj, ht⟩
  · exact .inl e
  · rcases hj with hj | rfl
    · exact .inr ⟨j, e, hj, ht⟩
    · exact absurd ht hno
theorem put_off {i nm k : Nat} (hno : ∀ kt e, ¬ Adds cx L ad cl T i nm kt e) : ∀ {M : Nat} {l : List (Value × SV)}, Put cx L ad cl T (And1 In i) nm k M l → Put cx L ad cl T In nm k M l := by
  intro M l h
  induction h with
  | nil => exact .nil
  | @add m l kt e h hi ha IH =>
    rcases hi with hi | rfl
    · exact .add IH hi ha
    · exact absurd ha (hno kt e)
  | skip h hs IH => exact .skip IH fun hi => hs (.inl hi)
/-- One entry more. -/
theorem put_on {i nm k : Nat} {kt : TypeId} {e : Value × SV} (ha : Adds cx L ad cl T i nm kt e) (hi : ¬ In i) (hki : k ≤ i) : ∀ {M : Nat} {l : List (Value × SV)}, Put cx L ad cl T (And1 In i) nm k M l →
    (M ≤ i → Put cx L ad cl T In nm k M l) ∧ (i < M → ∃ l0, Put cx L ad cl T In nm k M l0 ∧ l.Perm (l0 ++ [e])) := by
  intro M l h
  induction h with
  | nil => exact ⟨fun _ => .nil, fun h => by omega⟩
  | @add m l kt' e' h hm ha' IH =>
    refine ⟨fun hle => ?_, fun hlt => ?_⟩
    · rcases hm with hm | rfl
      · exact .add (IH.1 (by omega)) hm ha'
      · omega
    · by_cases e1 : m = i
      · subst e1
        obtain ⟨_, _, rfl⟩ := adds_one ha ha'
        exact ⟨l, .skip (IH.1 (Nat.le_refl _)) fun hin => absurd hin hi, .refl _⟩
      · rcases hm with hm | rfl
        · obtain ⟨l0, h1, h2⟩ := IH.2 (by omega)
          refine ⟨l0 ++ [e'], .add h1 hm ha', ?_⟩
          refine (h2.append_right [e']).trans ?_
          rw [List.append_assoc, List.append_assoc]
          exact List.Perm.append_left _ (List.Perm.swap _ _ _)
        · exact absurd rfl e1
  | @skip m l h hs IH =>
    refine ⟨fun hle => .skip (IH.1 (by omega)) fun hin => hs (.inl hin), fun hlt => ?_⟩
    by_cases e1 : m = i
    · subst e1
      exact absurd ha (hs (.inr rfl) kt e)
    · obtain ⟨l0, h1, h2⟩ := IH.2 (by omega)
      exact ⟨l0, .skip h1 fun hin => hs (.inl hin), h2⟩

/-- One that looks at no memory, or is passed over. -/
theorem inv_still (hR0 : Rel cx B ρ0 w0 (T.st 0)) (hI : Inv cx B ih nt L ad cl T ρ0 w0 In ρ w ta) {i : Nat} (hnl : ¬ Loud cx ih nt L ad cl T i) (hna : ∀ nm kt e, ¬ Adds cx L ad cl T i nm kt e) {ta' : Array Value}
    (hta : ta'.size = nt ∧ (∀ t j, And1 In i j → dstOf L j = some t → ∃ cv', conc ρ (T.vl j) = some cv' ∧ ta'[t]? = some cv') ∧ (∀ t sv, (∀ j, And1 In i j → dstOf L j ≠ some t) → (T.ts 0).get t = some sv → ∃ cv', conc ρ sv = some cv' ∧ ta'[t]? = some cv'))
    (hs : w.heap.size ≤ w'.heap.size) (hf : ∀ b, b < w.heap.size → w'.heap[b]? = w.heap[b]?) (h1 : w'.tape = w.tape) (h2 : w'.os = w.os) (h3 : w'.output = w.output) : Inv cx B ih nt L ad cl T ρ0 w0 (And1 In i) ρ w' ta' := by
  have cur : ∀ {nm k}, Cur cx ih nt L ad cl T (And1 In i) nm k → Cur cx ih nt L ad cl T In nm k := fun {nm k} h => cur_off (fun ht => hnl (touch_loud ht)) h
  refine ⟨hta.1, hta.2.1, hta.2.2, fun nm k l o hk hp ho => ?_, fun n m k k' l l' o o' b c c' g1 g2 p1 p2 g3 g4 g5 g6 => hI.inj n m k k' l l' o o' b c c' (cur g1) (cur g2) (put_off (hna n) p1) (put_off (hna m) p2) g3 g4 g5 g6, fun j hl hj => hI.fresh j hl (fun hh => hj (.inl hh)), old_same hI.old hI.wsize hf, Nat.le_trans hI.wsize hs, ?_⟩
  · obtain ⟨b, c, ob, e1, e2, e3, e4⟩ := hI.objs nm k l o (cur hk) (put_off (hna nm) hp) ho
    exact ⟨b, c, ob, e1, e2, by rw [hf b (heap_lt e3)]; exact e3, e4⟩
  · have S := hI.since
    refine ⟨S.sub, S.dom, S.newb, fun b hb hno => by rw [hf b (by have := S.size; omega), S.frame b hb hno], Nat.le_trans S.size hs, h1.trans S.tape, h2.trans S.os, h3.trans S.output, fun n o b c g1 g2 g3 g4 => ?_⟩
    have := S.keepw n o b c g1 g2 g3 g4
    obtain ⟨b', c', ob, e1, _, e3, _⟩ := hR0.obj n o g3
    rw [g4] at e1
    cases e1
    rw [hf b (Nat.lt_of_lt_of_le (heap_lt e3) S.size), this]

/-- What is seen of the names of before the region. -/
theorem back_see (W : Whole cx ih nt L ad cl T) (hf0 : Fresh ρ0 (T.st 0).next (T.st L.length).next) {i : Nat} (hlt : i < L.length) {m : Nat} {x : SO} (hm : (T.st i).see m = some x) (h0 : ρ0 m ≠ none) : ∃ x', (T.st 0).see m = some x' := by
  obtain ⟨h2, h3⟩ := see_iff.1 hm
  have hn := W.raw_lt (by omega) h3
  have hle := (W.kp' (i := i) (j := L.length) (by omega) (Nat.le_refl _)).le
  have h0' : m < (T.st 0).next := by
    by_cases hh : m < (T.st 0).next
    · exact hh
    · exact absurd (hf0 m (by omega) (by omega)) h0
  cases hr : (T.st 0).heap.get m with
  | none => rw [(W.kp' (Nat.zero_le i) (by omega)).dead m h0' hr] at h3; cases h3
  | some x' => exact ⟨x', see_iff.2 ⟨by rw [← W.hid (i := i) (by omega)]; exact h2, hr⟩⟩

theorem back_block (W : Whole cx ih nt L ad cl T) (hf0 : Fresh ρ0 (T.st 0).next (T.st L.length).next) (S : Since L T ρ0 w0 ρ w) {i : Nat} (hlt : i < L.length) {m : Nat} {x : SO} {b c : Nat} (hm : (T.st i).see m = some x) (hr : ρ m = some (b, c)) :
    w0.heap.size ≤ b ∨ ∃ m' o' c', (T.st 0).see m' = some o' ∧ ρ0 m' = some (b, c') := by
  cases h0 : ρ0 m with
  | none => exact S.newb m b c h0 hr
  | some p =>
    have := S.sub m p h0
    rw [hr] at this
    cases this
    obtain ⟨x', hx'⟩ := back_see W hf0 hlt hm (by simp [h0])
    exact .inr ⟨m, x', c, hx', h0⟩

/-- A name that nothing has written. -/
theorem untouched (W : Whole cx ih nt L ad cl T) {n : Nat} (h1 : n ∉ (T.st L.length).wr) (h2 : n < (T.st 0).next) : ∀ j, ¬ Touch cx ih nt L ad cl T j n ∧ ∀ kt e, ¬ Adds cx L ad cl T j n kt e := by
  intro j
  refine ⟨?_, fun kt e ha => ?_⟩
  · rintro (⟨hlj, m1, _⟩ | ⟨hlj, _, ws, m2, m3⟩)
    · have := (W.kp' (Nat.zero_le j) (by have := loud_lt hlj; omega)).le
      omega
    · obtain ⟨oj, hoj, _, _, sj, _, _, q2, q3⟩ := hlj
      have hjl := (List.getElem?_eq_some_iff.1 hoj).1
      rw [m2] at q2
      simp only [List.cons.injEq, Prod.mk.injEq, true_and, and_true] at q2
      obtain ⟨_, rfl⟩ := q2
      refine h1 ((W.kp' (i := j + 1) (j := L.length) (by omega) (Nat.le_refl _)).wr n ?_)
      rw [q3]
      exact List.mem_append_left _ m3
  · have hjl := adds_lt ha
    obtain ⟨_, _, _, _, _, _, _, _, _, _, q3⟩ := ha
    refine h1 ((W.kp' (i := j + 1) (j := L.length) (by omega) (Nat.le_refl _)).wr n ?_)
    rw [q3]
    exact List.mem_cons_self ..

theorem untouched_cur (W : Whole cx ih nt L ad cl T) {n : Nat} (h1 : n ∉ (T.st L.length).wr) (h2 : n < (T.st 0).next) : Cur cx ih nt L ad cl T In n 0 ∧ Put cx L ad cl T In n 0 L.length [] := by
  have hno := untouched W h1 h2
  refine ⟨⟨Nat.zero_le _, .inl rfl, fun j _ ht => absurd ht (hno j).1⟩, ?_⟩
  obtain ⟨l, hl⟩ := put_upto (cx := cx) (L := L) (ad := ad) (cl := cl) (T := T) In n (Nat.zero_le L.length)
  have := put_none hl (fun m _ _ kt e => (hno m).2 kt e)
  rw [this] at hl
  exact hl

/-- One that looks at memory. -/
theorem inv_loud (W : Whole cx ih nt L ad cl T) (hf0 : Fresh ρ0 (T.st 0).next (T.st L.length).next) (hC : Closed L In) (hI : Inv cx B ih nt L ad cl T ρ0 w0 In ρ w ta) {i : Nat} {o : Oper} (ho : L[i]? = some o)
    (hl : Loud cx ih nt L ad cl T i) (hi : ¬ In i) (hanc : ∀ m, Nat.testBit (anc L i) m = true → In m) {ta' : Array Value}
    (hta : ta'.size = nt ∧ (∀ t j, And1 In i j → dstOf L j = some t → ∃ cv', conc ρ' (T.vl j) = some cv' ∧ ta'[t]? = some cv') ∧ (∀ t sv, (∀ j, And1 In i j → dstOf L j ≠ some t) → (T.ts 0).get t = some sv → ∃ cv', conc ρ' sv = some cv' ∧ ta'[t]? = some cv'))
    {s' : St} (hrn : T.rn (i + 1) = (i, (T.st i).next, s'.next, eldest (T.st i).next s'.wr) :: T.rn i) (hst : T.st (i + 1) = { s' with hid := (T.st i).hid, wr := eldest (T.st i).next s'.wr ++ (T.st i).wr }) (hR : Rel cx B ρ' w' s') (hE : Ext (T.given L cl i) s' ρ ρ' w w') :
    Inv cx B ih nt L ad cl T ρ0 w0 (And1 In i) ρ' w' ta' := by
  have hlt := loud_lt hl
  have hsn : (T.st (i + 1)).next = s'.next := by rw [hst]
  have hsh : (T.st (i + 1)).heap = s'.heap := by rw [hst]
  have hhid : s'.hid = hides (anc L i) (T.rn i) ++ (claimed (ancs L) i (anc L i) (T.st i).next cl ++ (T.st i).hid) := hE.hid
  have hna : ∀ nm kt e, ¬ Adds cx L ad cl T i nm kt e := fun nm kt e => W.quietAdds fun h => not_both hl h
  -- what the operation has written
  have hwr : ∀ {nm}, nm < (T.st i).next → nm ∈ s'.wr → Wrote cx ih nt L ad cl T i nm := fun {nm} h1 h2 => ⟨hl, h1, _, by rw [hsn]; exact hrn, mem_eldest.2 ⟨h2, h1⟩⟩
  have S := hI.since
  have see0 : ∀ {m : Nat} {x : SO}, (T.given L cl i).see m = some x → (T.st i).see m = some x := fun {m x} hm => by
    obtain ⟨_, _, h2, h3⟩ := given_see.1 hm
    exact see_iff.2 ⟨h2, h3⟩
  have back2 : ∀ {m : Nat} {x : SO} {b c : Nat}, (T.given L cl i).see m = some x → ρ m = some (b, c) → w0.heap.size ≤ b ∨ ∃ m' o' c', (T.st 0).see m' = some o' ∧ ρ0 m' = some (b, c') := fun hm hr => back_block W hf0 S hlt (see0 hm) hr
  have hfr : ∀ j, Loud cx ih nt L ad cl T j → ¬ And1 In i j → Fresh ρ' (T.st j).next (T.st (j + 1)).next := by
    intro j hlj hj n h1 h2
    have hne : j ≠ i := fun e => hj (.inr e)
    have h0 := hI.fresh j hlj (fun hh => hj (.inl hh)) n h1 h2
    cases hr : ρ' n with
    | none => rfl
    | some p =>
      exfalso
      obtain ⟨g1, g2⟩ := hE.dom n h0 (by simp [hr])
      have g1 : (T.st i).next ≤ n := g1
      rw [← hsn] at g2
      have hjl := loud_lt hlj
      by_cases hji : j < i
      · have := (W.kp' (i := j + 1) (j := i) (by omega) (by omega)).le
        omega
      · have := (W.kp' (i := i + 1) (j := j) (by omega) (by omega)).le
        omega
  -- what the operation hasn't touched
  have same : ∀ {nm k : Nat} {l : List (Value × SV)} {x : SO} {b c : Nat}, ¬ Touch cx ih nt L ad cl T i nm → Cur cx ih nt L ad cl T In nm k → Put cx L ad cl T In nm k L.length l → withE ((T.st k).see nm) l = some x → ρ nm = some (b, c) → b < w.heap.size → w'.heap[b]? = w.heap[b]? := by
    intro nm k l x b c hno hk hp hx hr hb'
    by_cases hg : ∃ y, (T.given L cl i).see nm = some y
    · obtain ⟨y, hy⟩ := hg
      have hn := W.raw_lt (by omega) (given_see.1 hy).2.2.2
      exact (hE.keepw nm (fun hh => hno (.inr (hwr hn hh))) hn).2 y b c hy hr
    · refine hE.frame b hb' (fun m y c' hm hrm => hg ⟨y, ?_⟩)
      obtain ⟨k', l', hk', hp'⟩ := both_exist (cx := cx) (ih := ih) (nt := nt) (L := L) (ad := ad) (cl := cl) (T := T) In m
      have := hI.inj m nm k' k l' l y x b c' c hk' hk hp' hp (given_cur W hC hl hi hanc hm hk' hp') hx hrm hr
      rw [← this]
      exact hm
  -- what it has touched
  have on : ∀ {nm k}, Touch cx ih nt L ad cl T i nm → Cur cx ih nt L ad cl T (And1 In i) nm k → k = i + 1 := fun {nm k} ht h => by
    have hall : ∀ j, In j → Touch cx ih nt L ad cl T j nm → j < i := by
      intro j hj htj
      have hne : j ≠ i := fun e => hi (by rw [← e]; exact hj)
      have hjl := touch_lt htj
      rcases ht with hm | hw
      · rcases htj with hmj | hwj
        · obtain ⟨_, a1, a2⟩ := hm
          obtain ⟨_, b1, b2⟩ := hmj
          by_cases hji : j < i
          · exact hji
          · have := (W.kp' (i := i + 1) (j := j) (by omega) (by omega)).le
            omega
        · obtain ⟨y, hy⟩ := wrote_saw W hwj
          rcases conflict W hwj.1 hy hlt (.inl hm) (Ne.symm hne) with h' | h'
          · exact absurd (hC j hj i h') hi
          · exact W.anc_lt i hlt j h'
      · obtain ⟨y, hy⟩ := wrote_saw W hw
        exact before W hC hl hi hy hj hjl (touch_marks htj)
    have h1 := h.2.2 i (.inr rfl) ht
    rcases h.2.1 with e | ⟨j, e, hj, htj⟩
    · omega
    · rcases hj with hj | rfl
      · have := hall j hj htj
        omega
      · exact e
  have onp : ∀ {nm l}, Touch cx ih nt L ad cl T i nm → Put cx L ad cl T (And1 In i) nm (i + 1) L.length l → l = [] := fun {nm l} ht hp => by
    refine put_none hp (fun m hm hin kt e ha => ?_)
    rcases hin with hin | rfl
    · rcases conflictA W ha ht with h' | h'
      · exact hi (hC m hin i h')
      · have := W.anc_lt i hlt m h'
        omega
    · omega
  have seen' : ∀ {nm : Nat} {x : SO}, Touch cx ih nt L ad cl T i nm → (T.st (i + 1)).see nm = some x → s'.see nm = some x := by
    intro nm x ht hx
    obtain ⟨x1, x2⟩ := see_iff.1 hx
    have x1 : hidden (T.st i).hid nm = false := by rw [hst] at x1; exact x1
    rw [see_iff, hhid, ← hsh, hidden_append, hidden_append, x1]
    refine ⟨?_, x2⟩
    rcases ht with ⟨_, m1, m2⟩ | hw
    · have e1 : hidden (hides (anc L i) (T.rn i)) nm = false := by
        cases hh : hidden (hides (anc L i) (T.rn i)) nm
        · rfl
        · exfalso
          obtain ⟨j, lo, hi', ws, hm, _, h1, h2⟩ := hidden_hides hh
          obtain ⟨j', hj', ws', _, e⟩ := (W.mem_rn i (by omega) _).1 hm
          cases e
          have := (W.kp' (i := j + 1) (j := i) (by omega) (by omega)).le
          omega
      have e2 : hidden (claimed (ancs L) i (anc L i) (T.st i).next cl) nm = false := by
        cases hh : hidden (claimed (ancs L) i (anc L i) (T.st i).next cl) nm
        · rfl
        · have := hidden_claimed hh
          omega
      rw [e1, e2]; rfl
    · obtain ⟨y, hy⟩ := wrote_saw W hw
      obtain ⟨g1, g2, _, _⟩ := given_see.1 hy
      rw [g1, g2]; rfl
  have hsince : Since L T ρ0 w0 ρ' w' := by
    refine ⟨S.sub.trans hE.sub, fun n h0 h1 => ?_, fun n b c h0 h1 => ?_, fun b hb0 hno => ?_, Nat.le_trans S.size hE.size, hE.tape.trans S.tape, hE.os.trans S.os, hE.output.trans S.output, fun n x b c h1 h2 h3 h4 => ?_⟩
    · cases hr : ρ n with
      | none =>
        obtain ⟨g1, g2⟩ := hE.dom n hr h1
        have g1 : (T.st i).next ≤ n := g1
        rw [← hsn] at g2
        have a1 := (W.kp' (Nat.zero_le i) (by omega)).le
        have a2 := (W.kp' (i := i + 1) (j := L.length) (by omega) (Nat.le_refl _)).le
        omega
      | some p => exact S.dom n h0 (by simp [hr])
    · cases hr : ρ n with
      | none =>
        rcases hE.newb n b c hr h1 with h2 | ⟨m, x, c', hm, hb'⟩
        · exact .inl (Nat.le_trans S.size h2)
        · exact back2 hm hb'
      | some p =>
        have := hE.sub n p hr
        rw [h1] at this
        cases this
        exact S.newb n b c h0 hr
    · rw [hE.frame b (Nat.lt_of_lt_of_le hb0 S.size) ?_, S.frame b hb0 hno]
      intro m x c hm hb'
      rcases back2 hm hb' with h | ⟨m', o', c', h1, h2⟩
      · omega
      · exact hno m' o' c' h1 h2
    · have hS := S.keepw n x b c h1 h2 h3 h4
      obtain ⟨hc0, hp0⟩ := untouched_cur (In := In) W h1 h2
      have hx0 : withE ((T.st 0).see n) [] = some x := by rw [withE_nil]; exact h3
      obtain ⟨b', c', ob, e1, _, e3, _⟩ := hI.objs n 0 [] x hc0 hp0 hx0
      rw [S.sub _ _ h4] at e1
      cases e1
      rw [same (untouched W h1 h2 i).1 hc0 hp0 hx0 (S.sub _ _ h4) (heap_lt e3), hS]
  refine ⟨hta.1, hta.2.1, hta.2.2, fun nm k l x hk hp hx => ?_, fun n m k k' l l' x x' b c c' h1 h2 p1 p2 h3 h4 h5 h6 => ?_, hfr, hR.old, hR.size, hsince⟩
  · by_cases ht : Touch cx ih nt L ad cl T i nm
    · obtain rfl := on ht hk
      rw [onp ht hp, withE_nil] at hx
      exact hR.obj nm x (seen' ht hx)
    · have hk' := cur_off ht hk
      have hp' := put_off (hna nm) hp
      obtain ⟨b, c, ob, e1, e2, e3, e4⟩ := hI.objs nm k l x hk' hp' hx
      exact ⟨b, c, ob, hE.sub _ _ e1, e2, by rw [same ht hk' hp' hx e1 (heap_lt e3)]; exact e3, e4.mono hE.sub⟩
  · have elder' : ∀ {n k : Nat} {l : List (Value × SV)} {x : SO} {b c : Nat}, Cur cx ih nt L ad cl T In n k → Put cx L ad cl T In n k L.length l → withE ((T.st k).see n) l = some x → ρ' n = some (b, c) → ρ n = some (b, c) ∧ b < w.heap.size := by
      intro n k l x b c hk hp hx hr
      obtain ⟨b0, c0, ob, e1, e2, e3, e4⟩ := hI.objs n k l x hk hp hx
      have := hE.sub _ _ e1
      rw [hr] at this
      cases this
      exact ⟨e1, heap_lt e3⟩
    have mixed : ∀ {n m k' : Nat} {l' : List (Value × SV)} {x x' : SO} {b c c' : Nat}, Touch cx ih nt L ad cl T i n → s'.see n = some x → ¬ Touch cx ih nt L ad cl T i m → Cur cx ih nt L ad cl T In m k' → Put cx L ad cl T In m k' L.length l' → withE ((T.st k').see m) l' = some x' → ρ' n = some (b, c) → ρ' m = some (b, c') → n = m := by
      intro n m k' l' x x' b c c' htn hn htm hk' hp' hx h5 h6
      obtain ⟨g1, g2⟩ := elder' hk' hp' hx h6
      by_cases hg : ∃ y, (T.given L cl i).see m = some y
      · obtain ⟨y, hy⟩ := hg
        have hm := W.raw_lt (by omega) (given_see.1 hy).2.2.2
        have hs := (hE.keepw m (fun hh => htm (.inr (hwr hm hh))) hm).1
        exact hR.inj n m x y b c c' hn (by rw [hs]; exact hy) h5 h6
      · exfalso
        have other : ∀ {m2 : Nat} {y : SO} {c2 : Nat}, (T.given L cl i).see m2 = some y → ρ m2 = some (b, c2) → False := by
          intro m2 y c2 hm2 hr2
          obtain ⟨k2, l2, hk2, hp2⟩ := both_exist (cx := cx) (ih := ih) (nt := nt) (L := L) (ad := ad) (cl := cl) (T := T) In m2
          have := hI.inj m2 m k2 k' l2 l' y x' b c2 c' hk2 hk' hp2 hp' (given_cur W hC hl hi hanc hm2 hk2 hp2) hx hr2 g1
          exact hg ⟨y, by rw [← this]; exact hm2⟩
        rcases htn with ⟨_, m1, m2⟩ | hw
        · have hrn' : ρ n = none := hI.fresh i hl hi n m1 m2
          rcases hE.newb n b c hrn' h5 with h | ⟨m2, y, c2, hm2, hr2⟩
          · omega
          · exact other hm2 hr2
        · obtain ⟨y, hy⟩ := wrote_saw W hw
          have hRg := given_rel W hC hI hl hi hanc
          obtain ⟨b0, c0, _, e1, _⟩ := hRg.obj n y hy
          have := hE.sub _ _ e1
          rw [h5] at this
          cases this
          exact other hy e1
    by_cases htn : Touch cx ih nt L ad cl T i n <;> by_cases htm : Touch cx ih nt L ad cl T i m
    · obtain rfl := on htn h1
      obtain rfl := on htm h2
      rw [onp htn p1, withE_nil] at h3
      rw [onp htm p2, withE_nil] at h4
      exact hR.inj n m x x' b c c' (seen' htn h3) (seen' htm h4) h5 h6
    · obtain rfl := on htn h1
      rw [onp htn p1, withE_nil] at h3
      exact mixed htn (seen' htn h3) htm (cur_off htm h2) (put_off (hna m) p2) h4 h5 h6
    · obtain rfl := on htm h2
      rw [onp htm p2, withE_nil] at h4
      exact (mixed htm (seen' htm h4) htn (cur_off htn h1) (put_off (hna n) p1) h3 h6 h5).symm
    · exact hI.inj n m k k' l l' x x' b c c' (cur_off htn h1) (cur_off htm h2) (put_off (hna n) p1) (put_off (hna m) p2) h3 h4 (elder' (cur_off htn h1) (put_off (hna n) p1) h3 h5).1 (elder' (cur_off htm h2) (put_off (hna m) p2) h4 h6).1

theorem kvs_perm {ρ : Nm} {es es' : List (Value × SV)} (h : es.Perm es') : ∀ {l : List (Value × Value)}, kvs ρ es = some l → ∃ l', kvs ρ es' = some l' ∧ l.Perm l' := by
  induction h with
  | nil => intro l hl; exact ⟨l, hl, .refl _⟩
  | @cons x es es' h IH =>
    intro l hl
    obtain ⟨k, v⟩ := x
    obtain ⟨u, r, h1, h2, rfl⟩ := kvs_cons_iff.1 hl
    obtain ⟨r', h3, h4⟩ := IH h2
    exact ⟨_, kvs_cons_iff.2 ⟨u, r', h1, h3, rfl⟩, h4.cons _⟩
  | @swap x y es =>
    intro l hl
    obtain ⟨k, v⟩ := x
    obtain ⟨k', v'⟩ := y
    obtain ⟨u, r, h1, h2, rfl⟩ := kvs_cons_iff.1 hl
    obtain ⟨u', r', h3, h4, rfl⟩ := kvs_cons_iff.1 h2
    exact ⟨_, kvs_cons_iff.2 ⟨u', _, h3, kvs_cons_iff.2 ⟨u, r', h1, h4, rfl⟩, rfl⟩, .swap _ _ _⟩
  | trans h1 h2 IH1 IH2 =>
    intro l hl
    obtain ⟨l1, g1, g2⟩ := IH1 hl
    obtain ⟨l2, g3, g4⟩ := IH2 g1
    exact ⟨l2, g3, g2.trans g4⟩

theorem map_perm {ρ : Nm} {c : Nat} {kt : TypeId} {es es' : List (Value × SV)} {ob : Obj} (h : es.Perm es') (r : ORel ρ c (.map kt es) ob) : ORel ρ c (.map kt es') ob := by
  obtain ⟨l, lst, clk, h1, h2, h3⟩ := r
  obtain ⟨l', g1, g2⟩ := kvs_perm h h1
  exact ⟨l', lst, clk, g1, h2, h3.trans g2⟩

theorem apartKey_ok {P : Program} {t : TypeId} {k k' : Value} (h : apartKey P t k k' = true) : sameKeyP P t k k' = some false ∧ sameKeyP P t k' k = some false := by
  unfold apartKey at h
  split at h
  · rename_i h1 h2; exact ⟨h1, h2⟩
  · cases h

theorem findKey_new {P : Program} {t : TypeId} {k : Value} : ∀ {es : List (Value × SV)}, (∀ p ∈ es, sameKeyP P t k p.1 = some false) → findKey P t k es = some none
  | [], _ => rfl
  | (k', v') :: es, h => by
    simp only [findKey]
    rw [h (k', v') (List.mem_cons_self ..), findKey_new (es := es) fun p hp => h p (List.mem_cons_of_mem _ hp)]

/-- The map into which an entry is put, as it stands now: its keys are all others. -/
theorem adder_map (W : Whole cx ih nt L ad cl T) (hC : Closed L In) {i nm : Nat} {kt : TypeId} {e : Value × SV} (ha : Adds cx L ad cl T i nm kt e) (hi : ¬ In i) (hanc : ∀ m, Nat.testBit (anc L i) m = true → In m) {k : Nat} {l : List (Value × SV)}
    (hk : Cur cx ih nt L ad cl T In nm k) (hp : Put cx L ad cl T In nm k L.length l) : k ≤ i ∧ ∃ es0, (T.st k).see nm = some (.map kt es0) ∧ ∀ p ∈ es0 ++ l, sameKeyP cx.P kt e.1 p.1 = some false := by
  have hlt := adds_lt ha
  have hki : k ≤ i := by
    rcases hk.2.1 with e' | ⟨j, e', hj, ht⟩
    · omega
    · rcases conflictA W ha ht with h' | h'
      · have := W.anc_lt i hlt j h'
        omega
      · exact absurd (hC j hj i h') hi
  have hno : ∀ j, k ≤ j → j < i → ¬ Touch cx ih nt L ad cl T j nm := by
    intro j a b ht
    rcases conflictA W ha ht with h' | h'
    · have := hk.2.2 j (hanc j h') ht
      omega
    · have := W.anc_lt j (by omega) i h'
      omega
  have hsee : ∃ es, (T.st i).see nm = some (.map kt es) ∧ (T.st (i + 1)).see nm = some (.map kt (es ++ [e])) ∧ ∀ p ∈ es, apartKey cx.P kt e.1 p.1 = true := by
    obtain ⟨o, ho, _, _, _, _, es, h3, _, h5, h6⟩ := ha
    obtain ⟨_, _, _, _, _, _, _, _, _, _, _, _, hap⟩ := addOne_ok h3
    exact ⟨es, h5, by rw [h6]; exact set_see h5 _, hap⟩
  obtain ⟨es, hs1, hs2, hap⟩ := hsee
  obtain ⟨l0, hl0⟩ := put_upto (cx := cx) (L := L) (ad := ad) (cl := cl) (T := T) (fun _ => True) nm hki
  have hall := put_see W (by omega) hno (fun _ _ _ _ _ _ => True.intro) hl0 (Nat.le_refl _)
  rw [hs1] at hall
  obtain ⟨es0, g1, g2⟩ := withE_map hall
  refine ⟨hki, es0, g1, fun p hp' => ?_⟩
  rcases List.mem_append.1 hp' with hm | hm
  · exact (apartKey_ok (hap p (by rw [g2]; exact List.mem_append_left _ hm))).1
  · obtain ⟨j, ktj, h1, h2, h3, h4⟩ := mem_put hp p hm
    have hne : j ≠ i := fun e' => hi (by rw [← e']; exact h3)
    by_cases hji : j < i
    · exact (apartKey_ok (hap p (by rw [g2]; exact List.mem_append_right _ (put_mem hl0 j ktj p h1 hji True.intro h4)))).1
    · -- one that comes later in the text: it has found the entry there
      have hlater : ∀ d, i + 1 + d ≤ j → ∃ es', (T.st (i + 1 + d)).see nm = some (.map kt es') ∧ e ∈ es' := by
        intro d
        induction d with
        | zero => intro _; exact ⟨_, hs2, List.mem_append_right _ (List.mem_singleton.2 rfl)⟩
        | succ d IH =>
          intro hd
          obtain ⟨es', q1, q2⟩ := IH (by omega)
          have hnt : ¬ Touch cx ih nt L ad cl T (i + 1 + d) nm := by
            intro ht
            have c1 : In (i + 1 + d) := by
              rcases conflictA W h4 ht with h' | h'
              · exact hC j h3 _ h'
              · have := W.anc_lt _ (touch_lt ht) j h'
                omega
            rcases conflictA W ha ht with h' | h'
            · have := W.anc_lt i hlt _ h'
              omega
            · exact hi (hC _ c1 i h')
          by_cases hadd : ∃ kt' e', Adds cx L ad cl T (i + 1 + d) nm kt' e'
          · obtain ⟨kt', e', o', _, _, _, _, _, es2, _, _, r5, r6⟩ := hadd
            rw [q1] at r5
            simp only [Option.some.injEq, SO.map.injEq] at r5
            obtain ⟨rfl, rfl⟩ := r5
            refine ⟨es' ++ [e'], ?_, List.mem_append_left _ q2⟩
            show (T.st (i + 1 + d + 1)).see nm = _
            rw [r6]
            exact set_see q1 _
          · refine ⟨es', ?_, q2⟩
            show (T.st (i + 1 + d + 1)).see nm = _
            rw [W.seeSame (by omega) hnt (fun kt' e' h' => hadd ⟨kt', e', h'⟩)]
            exact q1
      obtain ⟨es', q1, q2⟩ := hlater (j - (i + 1)) (by omega)
      rw [show i + 1 + (j - (i + 1)) = j by omega] at q1
      obtain ⟨oj, _, _, _, _, _, esj, r3, _, r5, _⟩ := h4
      rw [q1] at r5
      simp only [Option.some.injEq, SO.map.injEq] at r5
      obtain ⟨rfl, rfl⟩ := r5
      obtain ⟨_, _, _, _, _, _, _, _, _, _, _, _, hapj⟩ := addOne_ok r3
      exact (apartKey_ok (hapj e q2)).2

/-- One that puts an entry into a map. -/
theorem inv_adder (W : Whole cx ih nt L ad cl T) (hf0 : Fresh ρ0 (T.st 0).next (T.st L.length).next) (hI : Inv cx B ih nt L ad cl T ρ0 w0 In ρ w ta) {i nm : Nat} {kt : TypeId} {e : Value × SV} (ha : Adds cx L ad cl T i nm kt e)
    (hi : ¬ In i) {ta' : Array Value}
    (hta : ta'.size = nt ∧ (∀ t j, And1 In i j → dstOf L j = some t → ∃ cv', conc ρ (T.vl j) = some cv' ∧ ta'[t]? = some cv') ∧ (∀ t sv, (∀ j, And1 In i j → dstOf L j ≠ some t) → (T.ts 0).get t = some sv → ∃ cv', conc ρ sv = some cv' ∧ ta'[t]? = some cv'))
    {k : Nat} {l es0 : List (Value × SV)} (hk : Cur cx ih nt L ad cl T In nm k) (hp : Put cx L ad cl T In nm k L.length l) (hs0 : (T.st k).see nm = some (.map kt es0)) (hki : k ≤ i) {s1 s2 : St} (hs1 : ∀ n x, s1.see n = some x → n = nm) (hs1n : s1.see nm = some (.map kt (es0 ++ l))) (hs2 : s2.see nm = some (.map kt (es0 ++ l ++ [e])))
    (hR : Rel cx B ρ w' s2) (hE : Ext s1 s2 ρ ρ w w') : Inv cx B ih nt L ad cl T ρ0 w0 (And1 In i) ρ w' ta' := by
  have hlt := adds_lt ha
  have hadd := adds_adder ha fun _ ho => W.put ho
  have hnl : ¬ Loud cx ih nt L ad cl T i := fun h => not_both h hadd
  have cur : ∀ {n k}, Cur cx ih nt L ad cl T (And1 In i) n k → Cur cx ih nt L ad cl T In n k := fun {n k} h => cur_off (fun ht => hnl (touch_loud ht)) h
  have curk : ∀ {k'}, Cur cx ih nt L ad cl T In nm k' → k' = k := by
    intro k' hk'
    have one : ∀ {a b}, Cur cx ih nt L ad cl T In nm a → Cur cx ih nt L ad cl T In nm b → a ≤ b := by
      intro a b h1 h2
      rcases h1.2.1 with e1 | ⟨j, e1, hj, ht⟩
      · omega
      · have := h2.2.2 j hj ht
        omega
    exact Nat.le_antisymm (one hk' hk) (one hk hk')
  have hx0 : withE ((T.st k).see nm) l = some (.map kt (es0 ++ l)) := by rw [hs0]; rfl
  obtain ⟨b0, c0, ob0, q1, q2, q3, q4⟩ := hI.objs nm k l _ hk hp hx0
  have S := hI.since
  -- the entries of the map, one more
  have putn : ∀ {l'}, Put cx L ad cl T (And1 In i) nm k L.length l' → l'.Perm (l ++ [e]) := by
    intro l' h
    obtain ⟨l1, g1, g2⟩ := (put_on ha hi hki h).2 hlt
    have uniq : ∀ {M a b}, Put cx L ad cl T In nm k M a → Put cx L ad cl T In nm k M b → a = b := by
      intro M a b h1
      induction h1 generalizing b with
      | nil =>
        intro h2
        cases h2 with
        | nil => rfl
        | add h _ _ => have := put_le h; omega
        | skip h _ => have := put_le h; omega
      | @add m a kt' e' h hin ha' IH =>
        intro h2
        cases h2 with
        | nil => have := put_le h; omega
        | add h' _ ha'' => rw [IH h', (adds_one ha' ha'').2.2]
        | skip h' hs => exact absurd ha' (hs hin _ _)
      | @skip m a h hs IH =>
        intro h2
        cases h2 with
        | nil => have := put_le h; omega
        | add h' hin ha'' => exact absurd ha'' (hs hin _ _)
        | skip h' _ => exact IH h'
    rw [uniq hp g1]
    exact g2
  have putne : ∀ {n k' l'}, n ≠ nm → Put cx L ad cl T (And1 In i) n k' L.length l' → Put cx L ad cl T In n k' L.length l' := fun hne h => put_off (fun kt' e' h' => hne (adds_one ha h').1) h
  have frame : ∀ {n k' : Nat} {l' : List (Value × SV)} {x : SO} {b c : Nat}, n ≠ nm → Cur cx ih nt L ad cl T In n k' → Put cx L ad cl T In n k' L.length l' → withE ((T.st k').see n) l' = some x → ρ n = some (b, c) → b < w.heap.size → w'.heap[b]? = w.heap[b]? := by
    intro n k' l' x b c hne hk' hp' hx hr hb
    refine hE.frame b hb (fun m y c' hm hrm => ?_)
    obtain rfl := hs1 m y hm
    exact hne (hI.inj n m k' k l' l x _ b c c' hk' hk hp' hp hx hx0 hr hrm)
  -- whoever is there behind it was there ahead of it
  have prior : ∀ {n k' : Nat} {l' : List (Value × SV)} {x : SO}, Cur cx ih nt L ad cl T (And1 In i) n k' → Put cx L ad cl T (And1 In i) n k' L.length l' → withE ((T.st k').see n) l' = some x → ∃ l'' x', Cur cx ih nt L ad cl T In n k' ∧ Put cx L ad cl T In n k' L.length l'' ∧ withE ((T.st k').see n) l'' = some x' := by
    intro n k' l' x hk' hp' hx
    by_cases hne : n = nm
    · subst hne
      obtain rfl := curk (cur hk')
      exact ⟨l, _, hk, hp, hx0⟩
    · exact ⟨l', x, cur hk', putne hne hp', hx⟩
  refine ⟨hta.1, hta.2.1, hta.2.2, fun n k' l' x hk' hp' hx => ?_, fun n m ka kb la lb x x' b c c' h1 h2 p1 p2 h3 h4 h5 h6 => ?_, fun j hl hj => hI.fresh j hl (fun hh => hj (.inl hh)), hR.old, hR.size, ?_⟩
  · by_cases hne : n = nm
    · subst hne
      obtain rfl := curk (cur hk')
      rw [hs0] at hx
      have hx : some (SO.map kt (es0 ++ l')) = some x := hx
      cases hx
      obtain ⟨b, c, ob, e1, e2, e3, e4⟩ := hR.obj n _ hs2
      refine ⟨b, c, ob, e1, e2, e3, map_perm ?_ e4⟩
      rw [List.append_assoc]
      exact List.Perm.append_left _ (putn hp').symm
    · obtain ⟨b, c, ob, e1, e2, e3, e4⟩ := hI.objs n k' l' x (cur hk') (putne hne hp') hx
      exact ⟨b, c, ob, e1, e2, by rw [frame hne (cur hk') (putne hne hp') hx e1 (heap_lt e3)]; exact e3, e4⟩
  · obtain ⟨la', xa, a1, a2, a3⟩ := prior h1 p1 h3
    obtain ⟨lb', xb, b1, b2, b3⟩ := prior h2 p2 h4
    exact hI.inj n m ka kb la' lb' xa xb b c c' a1 b1 a2 b2 a3 b3 h5 h6
  · obtain ⟨xi, hxi⟩ : ∃ x, (T.st i).see nm = some x := by obtain ⟨_, _, _, _, _, _, es, _, _, h5, _⟩ := ha; exact ⟨_, h5⟩
    refine ⟨S.sub, S.dom, S.newb, fun b hb0 hno => ?_, Nat.le_trans S.size hE.size, hE.tape.trans S.tape, hE.os.trans S.os, hE.output.trans S.output, fun n x b c h1 h2 h3 h4 => ?_⟩
    · rw [hE.frame b (Nat.lt_of_lt_of_le hb0 S.size) ?_, S.frame b hb0 hno]
      intro m x c hm hb'
      obtain rfl := hs1 m x hm
      rcases back_block W hf0 S hlt hxi hb' with h | ⟨m', o', c', g1, g2⟩
      · omega
      · exact hno m' o' c' g1 g2
    · have hS := S.keepw n x b c h1 h2 h3 h4
      obtain ⟨hc0, hp0⟩ := untouched_cur (In := In) W h1 h2
      have hx1 : withE ((T.st 0).see n) [] = some x := by rw [withE_nil]; exact h3
      have hne : n ≠ nm := fun e' => by subst e'; exact (untouched W h1 h2 i).2 kt e ha
      obtain ⟨b', c', ob, e1, _, e3, _⟩ := hI.objs n 0 [] x hc0 hp0 hx1
      rw [S.sub _ _ h4] at e1
      cases e1
      rw [frame hne hc0 hp0 hx1 (S.sub _ _ h4) (heap_lt e3), hS]
end
end Go.Proofs.YtdkkblkbonjjgabGreatDoor.Ev

namespace Go.Proofs.YtdkkblkbonjjgabGreatDoor.Ev
open Go
variable [Env]

theorem bool_false : ∀ {b : Bool}, (b = true → False) → b = false
  | true, h => (h rfl).elim
  | false, _ => rfl

theorem fitsAhead_mem {a : Nat} {dst : Option Tmp} {lk : List Tmp} : ∀ {acc : List (Nat × Option Tmp × List Tmp)}, fitsAhead a dst lk acc = true → ∀ j dj lj, (j, dj, lj) ∈ acc → (∀ t, dst = some t → dj ≠ some t) ∧ ((dstIn dj lk || dstIn dst lj) = true → Nat.testBit a j = true)
  | [], _, j, dj, lj, hm => by simp at hm
  | (i, di, li) :: rest, h, j, dj, lj, hm => by
    simp only [fitsAhead] at h
    split at h
    · cases h
    · cases h
    · rename_i h1 h2
      rcases List.mem_cons.1 hm with hm | hm
      · cases hm
        refine ⟨fun t ht hd => ?_, fun hb => ?_⟩
        · subst ht; subst hd
          apply h1
          simp [dstIn]
        · cases hbit : Nat.testBit a i
          · exfalso
            exact h2 (bool_false h1) hb hbit
          · rfl
      · exact fitsAhead_mem h j dj lj hm

structure Fits (L : List Oper) : Prop where
  back : ∀ (k : Nat) (o : Oper), L[k]? = some o → ∀ e ∈ o.after.toList, Region.binds .any e = true → e.on < k
  apart : ∀ (j k : Nat) (oj ok : Oper) (t : Tmp), j < k → L[j]? = some oj → L[k]? = some ok → ok.dst = some t → oj.dst ≠ some t
  sees : ∀ (j k : Nat) (oj ok : Oper), j < k → L[j]? = some oj → L[k]? = some ok → (dstIn oj.dst (looks L ok) || dstIn ok.dst (looks L oj)) = true → Nat.testBit (anc L k) j = true

theorem fits_spec {L : List Oper} : ∀ (l : List (Oper × Nat)) (i : Nat) (acc : List (Nat × Option Tmp × List Tmp)), (∀ j, l[j]? = (L.zip (ancs L))[i + j]?) → (∀ j o, j < i → L[j]? = some o → (j, o.dst, looks L o) ∈ acc) → regionFits L l i acc = true →
    ∀ k o, i ≤ k → L[k]? = some o → (∀ e ∈ o.after.toList, Region.binds .any e = true → e.on < k) ∧ ∀ j oj, j < k → L[j]? = some oj → (∀ t, o.dst = some t → oj.dst ≠ some t) ∧ ((dstIn oj.dst (looks L o) || dstIn o.dst (looks L oj)) = true → Nat.testBit (anc L k) j = true)
  | [], i, acc, hl, _, _, k, o, hk, ho => by
    exfalso
    have h1 := hl (k - i)
    rw [show i + (k - i) = k by omega] at h1
    have hlt := (List.getElem?_eq_some_iff.1 ho).1
    have : k < (L.zip (ancs L)).length := by rw [List.length_zip, ancs_length]; omega
    rw [List.getElem?_eq_getElem this] at h1
    simp at h1
  | (o0, a0) :: l, i, acc, hl, hacc, h, k, o, hk, ho => by
    have h0 := hl 0
    simp only [List.getElem?_cons_zero, Nat.add_zero] at h0
    have h0' := List.getElem?_zip_eq_some.1 h0.symm
    have ha0 : anc L i = a0 := by unfold anc; rw [h0'.2]; rfl
    simp only [regionFits] at h
    split at h
    · rename_i he hf
      by_cases e : k = i
      · subst e
        rw [h0'.1] at ho
        cases ho
        refine ⟨fun e hm hb => ?_, fun j oj hj hoj => ?_⟩
        · have := List.all_eq_true.1 he e hm
          rw [hb] at this
          exact blt_lt this
        · have := fitsAhead_mem hf j _ _ (hacc j oj hj hoj)
          rw [ha0]
          exact this
      · refine fits_spec l (i + 1) _ (fun j => ?_) (fun j o' hj ho' => ?_) h k o (by omega) ho
        · have := hl (j + 1)
          rw [show i + 1 + j = i + (j + 1) by omega, ← this]
          rfl
        · by_cases e : j = i
          · subst e
            rw [h0'.1] at ho'
            cases ho'
            exact List.mem_cons_self ..
          · exact List.mem_cons_of_mem _ (hacc j o' (by omega) ho')
    · cases h

theorem fits_of {L : List Oper} (h : regionFits L (L.zip (ancs L)) 0 [] = true) : Fits L := by
  have := fits_spec (L := L) _ 0 [] (fun j => by simp) (fun j o hj => by omega) h
  exact ⟨fun k o ho => (this k o (by omega) ho).1, fun j k oj ok t hj hoj hok => ((this k ok (by omega) hok).2 j oj hj hoj).1 t, fun j k oj ok hj hoj hok => ((this k ok (by omega) hok).2 j oj hj hoj).2⟩

theorem dstIn_mem {t : Tmp} {l : List Tmp} (h : t ∈ l) : dstIn (some t) l = true := by
  simp only [dstIn, List.any_eq_true]
  exact ⟨t, h, Nat.beq_refl t⟩

section
variable {cx : Cx} {B : Nat} {ih : Runs} {nt : Nat} {L : List Oper} {ad : Bool} {cl : List Did} {T : Tr} {ρ0 ρ : Nm} {w0 w : World} {In : Nat → Prop} {ta : Array Value}

theorem ts_get (W : Whole cx ih nt L ad cl T) (t : Tmp) : ∀ i, i ≤ L.length → (∃ j, j < i ∧ dstOf L j = some t ∧ (T.ts i).get t = some (T.vl j)) ∨ ((∀ j, j < i → dstOf L j ≠ some t) ∧ (T.ts i).get t = (T.ts 0).get t)
  | 0, _ => .inr ⟨fun j hj => by omega, rfl⟩
  | i + 1, hi => by
    have ho : L[i]? = some L[i] := List.getElem?_eq_getElem (by omega)
    have hp := W.put ho
    have hd : dstOf L i = L[i].dst := by simp [dstOf, ho]
    by_cases e : dstOf L i = some t
    · refine .inl ⟨i, by omega, e, ?_⟩
      rw [hd] at e
      rw [e] at hp
      simp only [putT] at hp
      split at hp
      · rw [← Option.some.inj hp, Ev.T.get_put]
        simp
      · cases hp
    · have hs : (T.ts (i + 1)).get t = (T.ts i).get t := by
        unfold putT at hp
        split at hp
        · rename_i d hdd
          split at hp
          · rw [← Option.some.inj hp, Ev.T.get_put]
            rw [if_neg]
            intro h
            apply e
            rw [hd, hdd, h]
          · cases hp
        · rw [← Option.some.inj hp]
      rcases ts_get W t i (by omega) with ⟨j, hj, h1, h2⟩ | ⟨h1, h2⟩
      · exact .inl ⟨j, by omega, h1, by rw [hs]; exact h2⟩
      · refine .inr ⟨fun j hj => ?_, by rw [hs]; exact h2⟩
        by_cases e' : j = i
        · rw [e']; exact e
        · exact h1 j (by omega)

theorem dst_apart (F : Fits L) : ∀ j k t, j ≠ k → dstOf L j = some t → dstOf L k ≠ some t := by
  intro j k t hne hj hk
  simp only [dstOf, Option.bind_eq_some_iff] at hj hk
  obtain ⟨oj, h1, h2⟩ := hj
  obtain ⟨ok, h3, h4⟩ := hk
  rcases Nat.lt_or_gt_of_ne hne with h | h
  · exact F.apart j k oj ok t h h1 h3 h4 h2
  · exact F.apart k j ok oj t h h3 h1 h2 h4

/-- A slot that an operation looks at. -/
theorem slot_ok (W : Whole cx ih nt L ad cl T) (F : Fits L) (hC : Closed L In) (hI : Inv cx B ih nt L ad cl T ρ0 w0 In ρ w ta) {i : Nat} {o : Oper} (ho : L[i]? = some o) (hi : ¬ In i) (hanc : ∀ m, Nat.testBit (anc L i) m = true → In m) {t : Tmp} (ht : t ∈ looks L o) {sv : SV}
    (h : (T.ts i).get t = some sv) : ∃ cv, conc ρ sv = some cv ∧ ta[t]? = some cv := by
  have hlt := (List.getElem?_eq_some_iff.1 ho).1
  rcases ts_get W t i (by omega) with ⟨j, hj, h1, h2⟩ | ⟨h1, h2⟩
  · rw [h2] at h
    cases h
    have hd := h1
    simp only [dstOf, Option.bind_eq_some_iff] at hd
    obtain ⟨oj, hoj, hdj⟩ := hd
    have := F.sees j i oj o hj hoj ho (by rw [hdj, dstIn_mem ht]; rfl)
    exact hI.slots t j (hanc j this) h1
  · rw [h2] at h
    refine hI.olds t sv (fun j hj hd => ?_) h
    by_cases hji : j < i
    · exact h1 j hji hd
    · have hne : j ≠ i := fun e => hi (by rw [← e]; exact hj)
      simp only [dstOf, Option.bind_eq_some_iff] at hd
      obtain ⟨oj, hoj, hdj⟩ := hd
      have := F.sees i j o oj (by omega) ho hoj (by rw [hdj, dstIn_mem ht]; simp)
      exact hi (hC j hj i this)

theorem wanted_slot {ops : Array Oper} {o : Oper} {tt : Ev.T SV} {tmps : Array Value} {b : Bool} (hT : ∀ j want g d, o.guard = some (j, want) → ops[j]? = some g → g.dst = some d → ∀ sv, tt.get d = some sv → ∃ cv, conc ρ sv = some cv ∧ tmps[d]? = some cv)
    (h : wanted ops.toList o tt = some b) : Region.wanted o (Go.yielded ops tmps) = b := by
  unfold wanted at h
  unfold Region.wanted
  cases hg : o.guard with
  | none => rw [hg] at h; simpa using h
  | some jw =>
    obtain ⟨j, want⟩ := jw
    rw [hg] at h
    dsimp only at h ⊢
    split at h
    · rename_i g hj
      split at h
      · rename_i d hd
        have hj' : ops[j]? = some g := by simpa using hj
        split at h
        · rename_i b' hb
          obtain ⟨u, h1, h2⟩ := hT j want g d hg hj' hd _ hb
          rw [conc_lit] at h1
          cases h1
          have : Go.yielded ops tmps j = some b' := by simp [Go.yielded, hj', hd, h2]
          rw [this]
          cases b' <;> cases want <;> simp_all
        · rename_i sv hne hb
          cases h
          obtain ⟨u, h1, h2⟩ := hT j want g d hg hj' hd _ hb
          have : Go.yielded ops tmps j = none := by
            simp only [Go.yielded, hj', Option.bind_some, hd, h2]
            cases u <;> first | rfl | exact absurd (conc_bool h1) (hne _)
          rw [this]
          rfl
        · cases h
      · cases h
    · cases h

theorem noSt_see (n : Nat) : noSt.see n = none := rfl
theorem noSt_rel (h : ∀ b i v, cx.old b i = some v → b < B ∧ w.cell? ⟨b, i, none⟩ = some v) (hs : B ≤ w.heap.size) : Rel cx B ρ w noSt :=
  ⟨(fun n o h => by rw [noSt_see] at h; cases h), (fun n m o o' b c c' h => by rw [noSt_see] at h; cases h), (fun n o h => by simp [noSt, Ev.T.get_leaf] at h), h, hs⟩

/-- One operation is carried out, whichever comes next. -/
theorem drawn_step (hG : Good cx.P) (hih : OneOK cx B ih) {ops : Array Oper} (hops : ops.toList = L) (W : Whole cx ih nt L ad cl T) (F : Fits L) (hf0 : Fresh ρ0 (T.st 0).next (T.st L.length).next) (hR0 : Rel cx B ρ0 w0 (T.st 0))
    (hC : Closed L In) (hI : Inv cx B ih nt L ad cl T ρ0 w0 In ρ w ta) {i : Nat} {o : Oper} (ho : L[i]? = some o) (hi : ¬ In i) (hanc : ∀ m, Nat.testBit (anc L i) m = true → In m) {f : FuncId} {k : List Item} {ds : List Deferred} {ro : Option Nat} {cs : List Frame} {rest : List Nat} :
    ∃ ρ' w' ta', Steps cx.P (lone (fr f ta (.inRegion ops (i :: rest) :: k) ds ro) cs w) (lone (fr f ta' (.inRegion ops rest :: k) ds ro) cs w') ∧ Inv cx B ih nt L ad cl T ρ0 w0 (And1 In i) ρ' w' ta' := by
  have hop : ops[i]? = some o := by rw [← hops] at ho; simpa using ho
  have hwant : ∀ b, wanted L o (T.ts i) = some b → Region.wanted o (Go.yielded ops ta) = b := by
    intro b hw
    rw [← hops] at hw
    refine wanted_slot (ρ := ρ) (fun j want g d hg hj hd sv hsv => ?_) hw
    refine slot_ok W F hC hI ho hi hanc ?_ hsv
    unfold looks
    rw [hg]
    have : L[j]? = some g := by rw [← hops]; simpa using hj
    dsimp only
    rw [this]
    simp [hd]
  have hev : ∀ x ∈ o.op.operands, ∀ sv, eval (T.ts i) x = some sv → conc ρ sv = some ((fr f ta [] ds ro).eval x) := by
    intro x hx sv hsv
    cases x with
    | tmp t =>
      obtain ⟨cv, h1, h2⟩ := slot_ok W F hC hI ho hi hanc (t := t) (by
        unfold looks
        refine List.mem_append.2 (.inl (List.mem_filterMap.2 ⟨.tmp t, by simpa using hx, rfl⟩))) hsv
      rw [h1]
      simp [Frame.eval, fr, h2]
    | const c => simp only [eval, Option.some.injEq] at hsv; subst hsv; exact conc_lit _ _
    | global g => simp only [eval, Option.some.injEq] at hsv; subst hsv; exact conc_lit _ _
    | func g => simp only [eval, Option.some.injEq] at hsv; subst hsv; exact conc_fn (concs_nil _)
  have hput := W.put ho
  have hsl : ∀ {ρ' cv}, Sub ρ ρ' → conc ρ' (T.vl i) = some cv → _ := fun {ρ' cv} hs hv => inv_slots (ρ' := ρ') (dst_apart F) ho (cv := cv) hI.tsize ⟨_, hput⟩ hv hs hI.slots hI.olds hi
  have hlt := (List.getElem?_eq_some_iff.1 ho).1
  have hnl : T.rn (i + 1) = T.rn i → ¬ Loud cx ih nt L ad cl T i := fun e h => loud_rn h e
  have hna : T.rn (i + 1) = T.rn i → ∀ nm kt e, ¬ Adds cx L ad cl T i nm kt e := fun e nm kt x h => adder_rn (adds_adder h fun _ ho => W.put ho) e
  rcases W.step i o ho with ⟨h1, h2, h3, _, _, h4⟩ | ⟨h1, h2, _, _, h3⟩ | hl | hadd
  · obtain ⟨_, hq⟩ := quiet_oneOp h2 h3
    obtain ⟨ρ', w', cv, g1, g2, g3, g4⟩ := oneOp_ok (k := k) (ds := ds) (ro := ro) (cs := cs) (f := f) (rest := rest) (s := noSt) (s' := noSt) hG hih (noSt_rel hI.old hI.wsize) (fun n h h' => by simp [noSt] at h') hop (hwant _ h1) hev (hq noSt)
    have hρ : ρ' = ρ := by
      funext n
      cases hr : ρ n with
      | some p => exact g4.sub n p hr
      | none =>
        cases hr' : ρ' n with
        | none => rfl
        | some p =>
          have := g4.dom n hr (by simp [hr'])
          simp [noSt] at this
    subst hρ
    exact ⟨ρ', w', _, g1, inv_still hR0 hI (hnl h4) (hna h4) (hsl (Sub.refl _) g2) g4.size (fun b hb' => g4.frame b hb' (fun n o c h => by rw [noSt_see] at h; cases h)) g4.tape g4.os g4.output⟩
  · have hv : conc ρ (T.vl i) = some undef := by rw [h2]; exact conc_lit _ _
    exact ⟨ρ, w, _, .one (st_op_skip hop (hwant _ h1)), inv_still hR0 hI (hnl h3) (hna h3) (hsl (Sub.refl _) hv) (Nat.le_refl _) (fun _ _ => rfl) rfl rfl rfl⟩
  · have hL : Loud cx ih nt L ad cl T i := ⟨o, ho, hl⟩
    obtain ⟨h1, _, s', h2, _, h4, h5⟩ := hl
    have hR := given_rel W hC hI hL hi hanc
    have hsn : (T.st (i + 1)).next = s'.next := by rw [h5]
    obtain ⟨ρ', w', cv, g1, g2, g3, g4⟩ := oneOp_ok (k := k) (ds := ds) (ro := ro) (cs := cs) (f := f) (rest := rest) (s := T.given L cl i) (s' := s') hG hih hR (by rw [← hsn]; exact hI.fresh i hL hi) hop (hwant _ h1) hev h2
    exact ⟨ρ', w', _, g1, inv_loud W hf0 hC hI ho hL hi hanc (hsl g4.sub g2) h4 h5 g3 g4⟩
  · obtain ⟨nm, kt, e, ha⟩ := adder_adds (⟨o, ho, hadd⟩ : Adder cx nt L ad cl T i)
    obtain ⟨kk, l, hk, hp⟩ := both_exist (cx := cx) (ih := ih) (nt := nt) (L := L) (ad := ad) (cl := cl) (T := T) In nm
    obtain ⟨hki, es0, hs0, hap⟩ := adder_map W hC ha hi hanc hk hp
    have hx0 : withE ((T.st kk).see nm) l = some (.map kt (es0 ++ l)) := by rw [hs0]; rfl
    obtain ⟨b0, c0, ob0, q1, q2, q3, q4⟩ := hI.objs nm kk l _ hk hp hx0
    obtain ⟨o', ho', hw', _, _, hv', es, h3, _, h5, _⟩ := id ha
    rw [ho] at ho'
    cases ho'
    obtain ⟨t, m, kx, x, elem, hopn, hu, hm, hkx, hx, hf, _, _⟩ := addOne_ok h3
    have hnlt : nm < (T.st i).next := W.raw_lt (by omega) (see_iff.1 h5).2
    -- a state of the map alone
    let s1 : St := { heap := Ev.T.put (some (.map kt (es0 ++ l))) .leaf nm, next := (T.st i).next, hid := [], wr := [] }
    have hsee : ∀ n y, s1.see n = some y → n = nm ∧ y = .map kt (es0 ++ l) := by
      intro n y hy
      obtain ⟨_, y2⟩ := see_iff.1 hy
      simp only [s1, Ev.T.get_put] at y2
      split at y2
      · rename_i en; cases y2; exact ⟨en, rfl⟩
      · rw [Ev.T.get_leaf] at y2; cases y2
    have hs1n : s1.see nm = some (.map kt (es0 ++ l)) := see_iff.2 ⟨rfl, by simp [s1, Ev.T.get_put]⟩
    have hR1 : Rel cx B ρ w s1 := by
      refine ⟨fun n y hy => ?_, fun n1 n2 y1 y2 b' c1 c2 r1 r2 _ _ => ((hsee _ _ r1).1).trans (hsee _ _ r2).1.symm, fun n y hy => ?_, hI.old, hI.wsize⟩
      · obtain ⟨rfl, rfl⟩ := hsee n y hy
        exact ⟨b0, c0, ob0, q1, q2, q3, q4⟩
      · obtain ⟨rfl, rfl⟩ := hsee n y (see_iff.2 ⟨rfl, hy⟩)
        exact hnlt
    have hset : setKey cx.P kt e.1 e.2 (es0 ++ l) = some (es0 ++ l ++ [(e.1, e.2)]) := by
      unfold setKey
      rw [findKey_new hap]
    have hrun : oneOp cx ih (T.ts i) s1 o = some (T.vl i, s1.set nm (.map kt (es0 ++ l ++ [(e.1, e.2)]))) := by
      obtain ⟨dst, op, type, pos, after, guard⟩ := o
      dsimp only at hopn hev
      subst hopn
      simp only [oneOp, xop, hu, hm, hkx, hx, hf, hs1n, hset, hv']
    obtain ⟨ρ', w', cv, g1, g2, g3, g4⟩ := oneOp_ok (k := k) (ds := ds) (ro := ro) (cs := cs) (f := f) (rest := rest) (s := s1) hG hih hR1 (fun n h h' => by simp only [St.set] at h'; omega) hop (hwant _ hw') hev hrun
    have hρ : ρ' = ρ := by
      funext n
      cases hr : ρ n with
      | some p => exact g4.sub n p hr
      | none =>
        cases hr' : ρ' n with
        | none => rfl
        | some p =>
          have := g4.dom n hr (by simp [hr'])
          simp only [St.set] at this
          omega
    subst hρ
    exact ⟨ρ', w', _, g1, inv_adder W hf0 hI ha hi (hsl (Sub.refl _) g2) hk hp hs0 hki (fun n y hy => (hsee n y hy).1) hs1n (set_see hs1n _) g3 g4⟩
end
end Go.Proofs.YtdkkblkbonjjgabGreatDoor.Ev

namespace Go.Proofs.YtdkkblkbonjjgabGreatDoor.Ev
open Go
variable [Env]

def unlisted (l : List Bool) : Nat := (l.filter (!·)).length

theorem unlisted_set : ∀ (l : List Bool) (i : Nat), l[i]? = some false → unlisted (l.set i true) + 1 = unlisted l
  | [], i, h => by simp at h
  | b :: l, 0, h => by
    simp at h
    subst h
    simp [unlisted]
  | b :: l, i + 1, h => by
    have := unlisted_set l i (by simpa using h)
    simp only [unlisted] at this ⊢
    cases b <;> simp only [List.set_cons_succ, List.filter_cons, Bool.not_true, Bool.not_false, if_true, Bool.false_eq_true, if_false, List.length_cons] <;> omega

theorem unlisted_zero : ∀ (l : List Bool), unlisted l = 0 → ∀ i, i < l.length → l[i]? = some true
  | [], _, i, h => by simp at h
  | b :: l, h, i, hi => by
    cases b
    · simp [unlisted] at h
    · cases i with
      | zero => rfl
      | succ i =>
        have := unlisted_zero l (by simpa [unlisted] using h) i (by simpa using hi)
        simpa using this

section
variable {cx : Cx} {B : Nat} {ih : Runs} {nt : Nat} {L : List Oper} {ad : Bool} {cl : List Did} {T : Tr} {ρ0 ρ : Nm} {w0 w : World} {ta : Array Value}

def Listed (listed : Array Bool) : Nat → Prop := fun j => listed[j]? = some true

theorem listed_and1 {listed : Array Bool} {i : Nat} (hi : i < listed.size) : Listed (listed.setIfInBounds i true) = And1 (Listed listed) i := by
  funext j
  simp only [Listed, And1, eq_iff_iff]
  by_cases e : j = i
  · subst e; simp [hi]
  · simp [Ne.symm e, e]

theorem lin_ok (hG : Good cx.P) (hih : OneOK cx B ih) {ops : Array Oper} (hops : ops.toList = L) (W : Whole cx ih nt L ad cl T) (F : Fits L) (hf0 : Fresh ρ0 (T.st 0).next (T.st L.length).next) (hR0 : Rel cx B ρ0 w0 (T.st 0))
    {f : FuncId} {k : List Item} {ds : List Deferred} {ro : Option Nat} {cs : List Frame} : ∀ (fuel t : Nat) (listed : Array Bool) (ρ : Nm) (w : World) (ta : Array Value), listed.size = L.length → unlisted listed.toList ≤ fuel → Closed L (Listed listed) →
      Inv cx B ih nt L ad cl T ρ0 w0 (Listed listed) ρ w ta →
    ∃ ρ' w' ta' In, Steps cx.P (lone (fr f ta (.inRegion ops (Region.linearise.go .any ops fuel t listed []) :: k) ds ro) cs w) (lone (fr f ta' k ds ro) cs w') ∧ Inv cx B ih nt L ad cl T ρ0 w0 In ρ' w' ta' ∧ ∀ j, j < L.length → In j := by
  have hsz : ops.size = L.length := by rw [← hops, Array.length_toList]
  have hget : ∀ j, ops[j]? = L[j]? := fun j => by rw [← hops, Array.getElem?_toList]
  intro fuel
  induction fuel with
  | zero =>
    intro t listed ρ w ta hls hu hC hI
    refine ⟨ρ, w, ta, Listed listed, .one st_region_end, hI, fun j hj => ?_⟩
    have := unlisted_zero listed.toList (by omega) j (by rw [Array.length_toList, hls]; exact hj)
    simpa [Listed] using this
  | succ fuel IH =>
    intro t listed ρ w ta hls hu hC hI
    simp only [Region.linearise.go]
    change ∃ ρ' w' ta' In, Steps cx.P (lone (fr f ta (.inRegion ops (match (Region.ready .any ops listed)[t % (Region.ready .any ops listed).length]? with
      | some i => Region.linearise.go .any ops fuel (t / (Region.ready .any ops listed).length) (listed.setIfInBounds i true) [i]
      | none => [].reverse) :: k) ds ro) cs w) _ ∧ _
    cases hi : (Region.ready .any ops listed)[t % (Region.ready .any ops listed).length]? with
    | none =>
      have hnil : Region.ready .any ops listed = [] := by
        cases hr : Region.ready .any ops listed with
        | nil => rfl
        | cons x xs =>
          rw [hr] at hi
          have hlt : t % (x :: xs).length < (x :: xs).length := Nat.mod_lt _ (by simp)
          rw [List.getElem?_eq_getElem hlt] at hi
          cases hi
      refine ⟨ρ, w, ta, Listed listed, .one st_region_end, hI, fun j hj => ?_⟩
      -- else the least one not yet carried out would be ready
      by_cases hall : ∃ m, m < L.length ∧ ¬ Listed listed m
      · exfalso
        obtain ⟨m, ⟨hm, hnm⟩, hleast⟩ := least_exists hall
        have : m ∈ Region.ready .any ops listed := by
          rw [mem_ready]
          refine ⟨?_, L[m], by rw [hget]; exact List.getElem?_eq_getElem hm, fun e he hbe => ?_⟩
          · have hlt : m < listed.size := by omega
            simp only [Listed] at hnm
            rw [Array.getElem?_eq_getElem hlt] at hnm
            simp only [Array.getD, hlt, dif_pos]
            cases hx : listed[m]
            · exact hx
            · rw [hx] at hnm; exact absurd rfl hnm
          · have hlt := F.back m _ (List.getElem?_eq_getElem hm) e (by simpa using he) hbe
            have hl : Listed listed e.on := by
              by_cases hh : Listed listed e.on
              · exact hh
              · exact absurd ⟨by omega, hh⟩ (hleast e.on hlt)
            simp only [Listed] at hl
            simp [hl]
        rw [hnil] at this
        cases this
      · by_cases hh : Listed listed j
        · exact hh
        · exact absurd ⟨j, hj, hh⟩ hall
    | some i =>
      have hmem := List.mem_of_getElem? hi
      obtain ⟨h0, o, ho, hedge⟩ := mem_ready.1 hmem
      rw [hget] at ho
      have hlt : i < L.length := (List.getElem?_eq_some_iff.1 ho).1
      have hlt' : i < listed.size := by omega
      have hni : listed[i]? = some false := by
        rw [Array.getElem?_eq_getElem hlt']
        simp only [Array.getD, hlt', dif_pos] at h0
        exact congrArg some h0
      have hnI : ¬ Listed listed i := by simp [Listed, hni]
      have hanc : ∀ m, Nat.testBit (anc L i) m = true → Listed listed m := by
        intro m hm
        obtain ⟨e, he, hbe, hj⟩ := anc_spec ho (F.back i o ho) hm
        have hl := hedge e (by simpa using he) hbe
        have hle : Listed listed e.on := by
          simp only [Listed]
          by_cases hx : e.on < listed.size
          · simp only [Array.getD, hx, dif_pos] at hl
            rw [Array.getElem?_eq_getElem hx]
            exact congrArg some hl
          · simp [Array.getD, hx] at hl
        rcases hj with rfl | hj
        · exact hle
        · exact hC _ hle m hj
      dsimp only
      rw [linearise_go_acc, List.reverse_singleton, List.singleton_append]
      obtain ⟨ρ1, w1, ta1, g1, g2⟩ := drawn_step (f := f) (k := k) (ds := ds) (ro := ro) (cs := cs) (rest := Region.linearise.go .any ops fuel (t / (Region.ready .any ops listed).length) (listed.setIfInBounds i true) []) hG hih hops W F hf0 hR0 hC hI ho hnI hanc
      rw [← listed_and1 hlt'] at g2
      have hu' : unlisted (listed.setIfInBounds i true).toList ≤ fuel := by
        have := unlisted_set listed.toList i (by simpa using hni)
        rw [Array.toList_setIfInBounds]
        omega
      have hC' : Closed L (Listed (listed.setIfInBounds i true)) := by
        rw [listed_and1 hlt']
        intro j hj m hm
        rcases hj with hj | rfl
        · exact .inl (hC j hj m hm)
        · exact .inl (hanc m hm)
      obtain ⟨ρ2, w2, ta2, In, e1, e2, e3⟩ := IH _ _ ρ1 w1 ta1 (by simpa using hls) hu' hC' g2
      exact ⟨ρ2, w2, ta2, In, g1.trans e1, e2, e3⟩

/-- The order of a drawn region does not matter. -/
theorem drawn_ok (hG : Good cx.P) (hih : OneOK cx B ih) (hk : KpOK ih) {f : FuncId} {k : List Item} {ds : List Deferred} {ro : Option Nat} {cs : List Frame} {ops : Array Oper} {tt tt' : Ev.T SV} {s s' : St} {tmps : Array Value}
    (hfit : regionFits ops.toList (ops.toList.zip (ancs ops.toList)) 0 [] = true) {ran : List Did} (h : runDrawn cx ih nt ops.toList (ancs ops.toList) ad cl (ops.toList.zip (ancs ops.toList)) 0 [] tt s = some (tt', s', ran)) (hcalm : calm (ancs ops.toList) cl ran ran = true)
    (hR : Rel cx B ρ w s) (hT : TRel ρ nt tt tmps) (hf : Fresh ρ s.next s'.next) (t : Nat) :
    ∃ ρ' w' tmps', Steps cx.P (lone (fr f tmps (.inRegion ops (Region.linearise .any ops t) :: k) ds ro) cs w) (lone (fr f tmps' k ds ro) cs w') ∧ TRel ρ' nt tt' tmps' ∧ Rel cx B ρ' w' s' ∧ Ext s s' ρ ρ' w w' := by
  have F := fits_of hfit
  have hzl : (ops.toList.zip (ancs ops.toList)).length = ops.toList.length := by rw [List.length_zip, ancs_length]; omega
  obtain ⟨T, e1, e2, e4, e5, e6, e8, e7⟩ := trace h
  rw [Nat.zero_add, hzl] at e5 e6 e8
  have W : Whole cx ih nt ops.toList ad cl T := by
    refine ⟨fun i o ho => ?_, hk, e4, by rw [e8]; exact hcalm, F.back, by rw [e1]; exact hR.bound⟩
    have hlt := (List.getElem?_eq_some_iff.1 ho).1
    have hz : (ops.toList.zip (ancs ops.toList))[i]? = some (o, anc ops.toList i) := by
      rw [List.getElem?_zip_eq_some]
      refine ⟨ho, ?_⟩
      have : i < (ancs ops.toList).length := by rw [ancs_length]; exact hlt
      rw [List.getElem?_eq_getElem this]
      simp [anc, this]
    have := e7 i (by rw [hzl]; exact hlt) o _ hz
    rw [Nat.zero_add] at this
    exact this
  subst e1; subst e2; subst e5; subst e6
  have hnone : ∀ j, ¬ Listed (Array.replicate ops.size false) j := by
    intro j hj
    simp only [Listed, Array.getElem?_replicate] at hj
    split at hj <;> cases hj
  have hcur0 : ∀ {nm k : Nat}, Cur cx ih nt ops.toList ad cl T (Listed (Array.replicate ops.size false)) nm k → k = 0 := by
    intro nm k hk
    rcases hk.2.1 with e | ⟨j, _, hj, _⟩
    · exact e
    · exact absurd hj (hnone j)
  have hput0 : ∀ {nm k : Nat} {l : List (Value × SV)}, Put cx ops.toList ad cl T (Listed (Array.replicate ops.size false)) nm k ops.toList.length l → l = [] := fun h => put_none h (fun m _ hm => absurd hm (hnone m))
  have I0 : Inv cx B ih nt ops.toList ad cl T ρ w (Listed (Array.replicate ops.size false)) ρ w tmps := by
    refine ⟨hT.1, fun t j hj => absurd hj (hnone j), fun t sv _ hsv => hT.2 t sv hsv, fun nm k l o hk hp ho => hR.obj nm o (by rw [hput0 hp, withE_nil, hcur0 hk] at ho; exact ho),
      fun n m k k' l l' o o' b c c' h1 h2 p1 p2 h3 h4 h5 h6 => hR.inj n m o o' b c c' (by rw [hput0 p1, withE_nil, hcur0 h1] at h3; exact h3) (by rw [hput0 p2, withE_nil, hcur0 h2] at h4; exact h4) h5 h6, fun j hl _ => ?_, hR.old, hR.size, ?_⟩
    · have hjl := loud_lt hl
      exact hf.sub (W.kp' (Nat.zero_le j) (by omega)).le (W.kp' (i := j + 1) (j := ops.toList.length) (by omega) (Nat.le_refl _)).le
    · exact ⟨Sub.refl _, fun n h h' => absurd h h', (fun n b c h h' => by rw [h] at h'; cases h'), fun _ _ _ => rfl, Nat.le_refl _, rfl, rfl, rfl, fun _ _ _ _ _ _ _ _ => rfl⟩
  obtain ⟨ρ', w', ta', In, g1, hI, hall⟩ := lin_ok (f := f) (k := k) (ds := ds) (ro := ro) (cs := cs) hG hih rfl W F hf hR ops.size t (Array.replicate ops.size false) ρ w tmps (by simp) (by
    simp only [unlisted, Array.toList_replicate]
    exact Nat.le_trans (List.length_filter_le _ _) (by simp)) (fun j hj => absurd hj (hnone j)) I0
  have hK := W.kp' (Nat.zero_le ops.toList.length) (Nat.le_refl _)
  have hend : ∀ {nm k : Nat} {l : List (Value × SV)} {x : SO}, (T.st ops.toList.length).see nm = some x → Cur cx ih nt ops.toList ad cl T In nm k → Put cx ops.toList ad cl T In nm k ops.toList.length l → withE ((T.st k).see nm) l = some x := by
    intro nm k l x hx hk hp
    rw [put_see W (Nat.le_refl _) (fun j hj _ ht => by have := hk.2.2 j (hall j (touch_lt ht)) ht; omega) (fun j _ hj _ _ _ => hall j hj) hp (Nat.le_refl _)]
    exact hx
  have S := hI.since
  refine ⟨ρ', w', ta', g1, ⟨hI.tsize, fun t sv hsv => ?_⟩, ⟨fun n o h => ?_, fun n m o o' b c c' h1 h2 h3 h4 => ?_, fun n o h => W.raw_lt (Nat.le_refl _) h, hI.old, hI.wsize⟩,
    ⟨hK.le, S.sub, S.dom, S.newb, S.frame, S.size, S.tape, S.os, S.output, hK.hid, fun n o h h0 => ?_, hK.wr, fun n h1 h2 => ⟨?_, fun o b c h3 h4 => S.keepw n o b c h1 h2 h3 h4⟩⟩⟩
  · rcases ts_get W t _ (Nat.le_refl _) with ⟨j, hj, h1, h2⟩ | ⟨h1, h2⟩
    · rw [h2] at hsv
      cases hsv
      exact hI.slots t j (hall j hj) h1
    · rw [h2] at hsv
      refine hI.olds t sv (fun j _ hd => ?_) hsv
      have hjl : j < ops.toList.length := by
        simp only [dstOf, Option.bind_eq_some_iff] at hd
        obtain ⟨oj, hoj, _⟩ := hd
        exact (List.getElem?_eq_some_iff.1 hoj).1
      exact h1 j hjl hd
  · obtain ⟨k, l, hk, hp⟩ := both_exist (cx := cx) (ih := ih) (nt := nt) (L := ops.toList) (ad := ad) (cl := cl) (T := T) In n
    exact hI.objs n k l o hk hp (hend h hk hp)
  · obtain ⟨k, l, hk, hp⟩ := both_exist (cx := cx) (ih := ih) (nt := nt) (L := ops.toList) (ad := ad) (cl := cl) (T := T) In n
    obtain ⟨k', l', hk', hp'⟩ := both_exist (cx := cx) (ih := ih) (nt := nt) (L := ops.toList) (ad := ad) (cl := cl) (T := T) In m
    exact hI.inj n m k k' l l' o o' b c c' hk hk' hp hp' (hend h1 hk hp) (hend h2 hk' hp') h3 h4
  · obtain ⟨x1, x2⟩ := see_iff.1 h
    have hn := W.raw_lt (Nat.le_refl _) x2
    have h0' : n < (T.st 0).next := by
      by_cases hh : n < (T.st 0).next
      · exact hh
      · exact absurd (hf n (by omega) hn) h0
    cases hr : (T.st 0).heap.get n with
    | none => rw [hK.dead n h0' hr] at x2; cases x2
    | some x => exact ⟨x, see_iff.2 ⟨by rw [← hK.hid]; exact x1, hr⟩⟩
  · unfold St.see
    rw [hK.hid, hK.keepw n h2 h1]

/-- The same, from its beginning. -/
theorem region_ok (hG : Good cx.P) (hih : OneOK cx B ih) (hk : KpOK ih) {f : FuncId} {k : List Item} {ds : List Deferred} {ro : Option Nat} {cs : List Frame} {ops : Array Oper} {tt tt' : Ev.T SV} {s s' : St} {tmps : Array Value}
    (hfit : regionFits ops.toList (ops.toList.zip (ancs ops.toList)) 0 [] = true) (h : runRegion cx ih nt ops.toList (ancs ops.toList) tt s = some (tt', s')) (hR : Rel cx B ρ w s) (hT : TRel ρ nt tt tmps) (hf : Fresh ρ s.next s'.next) (t : Nat) :
    ∃ ρ' w' tmps', Steps cx.P (lone (fr f tmps (.inRegion ops (Region.linearise .any ops t) :: k) ds ro) cs w) (lone (fr f tmps' k ds ro) cs w') ∧ TRel ρ' nt tt' tmps' ∧ Rel cx B ρ' w' s' ∧ Ext s s' ρ ρ' w w' := by
  obtain ⟨ad, cl, ran, h1, h2⟩ := runRegion_split h
  exact drawn_ok (ad := ad) (cl := cl) hG hih hk hfit h1 h2 hR hT hf t
end
end Go.Proofs.YtdkkblkbonjjgabGreatDoor.Ev

namespace Go.Proofs.YtdkkblkbonjjgabGreatDoor.Ev
open Go
variable [Env]

def dconc (ρ : Nm) : List Nat → Option (List Deferred)
  | [] => some []
  | d :: l => match ρ d, dconc ρ l with
    | some (b, _), some r => some ({ target := .collected b, args := #[] } :: r)
    | _, _ => none

theorem dconc_cons_iff {ρ : Nm} {d : Nat} {l : List Nat} {r : List Deferred} : dconc ρ (d :: l) = some r ↔ ∃ b c r', ρ d = some (b, c) ∧ dconc ρ l = some r' ∧ r = { target := .collected b, args := #[] } :: r' := by
  simp only [dconc]
  cases h : ρ d with
  | none => simp
  | some p => obtain ⟨b, c⟩ := p; cases dconc ρ l <;> simp [eq_comm]

theorem dconc_mono {ρ ρ' : Nm} (h : Sub ρ ρ') : ∀ {l : List Nat} {r : List Deferred}, dconc ρ l = some r → dconc ρ' l = some r
  | [], r, e => by simpa [dconc] using e
  | d :: l, r, e => by
    obtain ⟨b, c, r', h1, h2, rfl⟩ := dconc_cons_iff.1 e
    exact dconc_cons_iff.2 ⟨b, c, r', h _ _ h1, dconc_mono h h2, rfl⟩

section
variable {cx : Cx} {B : Nat} {ρ : Nm} {w : World} {s s' : St}

theorem run_takeDeferred' {P : Program} {b : Nat} (h : w.heap[b]? = some (.deferred (some []))) : (Instr.takeDeferred b).run P w = .ok [] { w with heap := w.heap.setIfInBounds b (.deferred none) } := by
  simp [Instr.takeDeferred, getObj, setObj, Sem.run, h]

/-- The blocks for deferred calls are taken. -/
theorem takeAll_ok {f : FuncId} {tmps : Array Value} {todo : List Item} {cs : List Frame} : ∀ {ds : List Nat} {s s' : St} {defs : List Deferred} {w : World}, Rel cx B ρ w s → takeAll ds s = some s' → dconc ρ ds = some defs →
    ∃ w', Steps cx.P (lone { fr f tmps todo defs none with mode := .returning } cs w) (lone { fr f tmps todo [] none with mode := .returning } cs w') ∧ Rel cx B ρ w' s' ∧ Ext s s' ρ ρ w w'
  | [], s, s', defs, w, hR, h, hd => by
    simp only [takeAll, Option.some.injEq] at h
    simp only [dconc, Option.some.injEq] at hd
    subst h; subst hd
    exact ⟨w, .refl _ _, hR, Ext.refl _ _ _⟩
  | d :: l, s, s', defs, w, hR, h, hd => by
    obtain ⟨b, c, r, h1, h2, rfl⟩ := dconc_cons_iff.1 hd
    simp only [takeAll] at h
    split at h
    · rename_i hs
      obtain ⟨b', c', ob, h3, _, h5, rfl⟩ := hR.obj d _ hs
      rw [h1] at h3
      cases h3
      obtain ⟨k1, k2⟩ := kill_ok hR hs h1 (w' := { w with heap := w.heap.setIfInBounds b (.deferred none) }) (Upd.mk' (heap_lt h5) (d := w.drawn))
      obtain ⟨w', g1, g2, g3⟩ := takeAll_ok k1 h h2
      exact ⟨w', .head (st_taken (run_takeDeferred' h5)) g1, g2, k2.trans g3⟩
    · cases h

theorem takeAll_next : ∀ {ds : List Nat} {s s' : St}, takeAll ds s = some s' → s'.next = s.next
  | [], s, s', h => by simp only [takeAll, Option.some.injEq] at h; rw [h]
  | d :: l, s, s', h => by
    simp only [takeAll] at h
    split at h
    · have h1 := takeAll_next h
      exact h1
    · cases h

def resOf (tmps : Array Value) : ResultVar → Sem Value
  | .tmp t => Pure.pure (tmps.getD t undef)
  | .cell a t => do loadVar t (← asAddr (tmps.getD a undef))

theorem results_eq (fn : Func) (tmps : Array Value) : Go.results fn tmps = (do let vs ← fn.results.mapM (resOf tmps); Pure.pure (if h : vs.size = 1 then vs[0] else .tuple vs)) := by
  unfold Go.results
  congr 2

theorem resOf_ok (hR : Rel cx B ρ w s) {nt : Nat} {tt : T SV} {tmps : Array Value} (hT : TRel ρ nt tt tmps) {x : SV} (r : ResultVar) (hx : (match r with
    | .tmp t => tt.get t
    | .cell a t => match tt.get a with
      | some p => load cx s t p
      | none => none) = some x) : ∃ u, conc ρ x = some u ∧ (resOf tmps r).run cx.P w = .ok u w := by
  cases r with
  | tmp t =>
    obtain ⟨u, g1, g2⟩ := hT.2 t x hx
    exact ⟨u, g1, by simp [resOf, g2]⟩
  | cell a t =>
    dsimp only at hx
    split at hx
    · rename_i p hp
      obtain ⟨u, g1, g2⟩ := hT.2 a p hp
      obtain ⟨b, off, cv, g3, g4, g5⟩ := load_ok hR hx
      rw [g1] at g3
      cases g3
      refine ⟨cv, g4, ?_⟩
      have hg : tmps.getD a undef = .pointer (some ⟨b, off, none⟩) := by simp [g2]
      simp [resOf, hg, asAddr, g5]
    · cases hx

/-- What a frame hands back. -/
theorem results_ok (hR : Rel cx B ρ w s) {nt : Nat} {tt : T SV} {tmps : Array Value} (hT : TRel ρ nt tt tmps) {fn : Func} {v : SV} (h : results cx s tt fn.results.toList = some v) :
    ∃ cv, conc ρ v = some cv ∧ (Go.results fn tmps).run cx.P w = .ok cv w := by
  have key : ∀ (l : List ResultVar) (vs : List SV), l.mapM (fun r => match r with
    | .tmp t => tt.get t
    | .cell a t => match tt.get a with
      | some p => load cx s t p
      | none => none) = some vs → ∃ us, concs ρ vs = some us ∧ (l.mapM (resOf tmps)).run cx.P w = .ok us w := by
    intro l
    induction l with
    | nil => intro vs h; simp at h; subst h; exact ⟨[], concs_nil _, by simp⟩
    | cons r l ih =>
      intro vs h
      simp only [List.mapM_cons, Option.bind_eq_bind, Option.pure_def] at h
      rw [Option.bind_eq_some_iff] at h
      obtain ⟨x, hx, h⟩ := h
      rw [Option.bind_eq_some_iff] at h
      obtain ⟨xs, hxs, h⟩ := h
      simp only [Option.some.injEq] at h
      subst h
      obtain ⟨us, h1, h2⟩ := ih xs hxs
      obtain ⟨u, g1, g2⟩ := resOf_ok hR hT r hx
      refine ⟨u :: us, concs_cons g1 h1, ?_⟩
      simp only [List.mapM_cons, Sem.run_bind, g2, Result.andThen_ok, h2, Sem.run_pure]
  have fin : ∀ us : List Value, (fn.results.toList.mapM (resOf tmps)).run cx.P w = .ok us w → (Go.results fn tmps).run cx.P w = .ok (if h : us.toArray.size = 1 then us.toArray[0] else .tuple us.toArray) w := by
    intro us hus
    rw [results_eq, Array.mapM_eq_mapM_toList, Sem.run_bind, Sem.run_map, hus]
    rfl
  unfold results at h
  split at h
  · rename_i x hx
    cases h
    obtain ⟨us, h1, h2⟩ := key _ _ hx
    obtain ⟨u, rfl, h3⟩ := concs_one h1
    exact ⟨u, h3, by rw [fin _ h2]; rfl⟩
  · rename_i vs hne hx
    cases h
    obtain ⟨us, h1, h2⟩ := key _ _ hx
    refine ⟨_, conc_tup h1, ?_⟩
    rw [fin _ h2]
    have : ¬ us.toArray.size = 1 := by
      have hl := concs_length h1
      intro h1'
      rw [List.size_toArray, hl] at h1'
      obtain ⟨y, rfl⟩ := List.length_eq_one_iff.1 h1'
      exact hne y rfl
    rw [dif_neg this]
  · cases h
end
end Go.Proofs.YtdkkblkbonjjgabGreatDoor.Ev

namespace Go.Proofs.YtdkkblkbonjjgabGreatDoor.Ev
open Go
variable [Env]

theorem exitTo_eq (id : Nat) : ∀ k, exitTo id k = Go.exitTo id k
  | [] => rfl
  | x :: k => by
    cases x <;> simp only [exitTo, Go.exitTo] <;> first | exact exitTo_eq id k | skip
    rename_i id'
    by_cases h : id' = id
    · have h1 : Nat.beq id' id = true := by rw [h]; exact Nat.beq_refl id
      have h2 : (id' == id) = true := by simpa using h
      rw [h1, h2]
      rfl
    · have h1 : Nat.beq id' id = false := by
        cases hb : Nat.beq id' id
        · rfl
        · exact absurd (beq_eq hb) h
      have h2 : (id' == id) = false := by simpa using h
      rw [h1, h2]
      exact exitTo_eq id k

theorem tmps0_ok {ρ : Nm} : ∀ (args : List SV) (us : List Value) (i : Nat) (tt : T SV) (pre : List Value) (m : Nat), concs ρ args = some us → pre.length = i →
    (∀ j sv, tt.get j = some sv → j < i ∧ ∃ v, conc ρ sv = some v ∧ pre[j]? = some v) → ∀ j sv, (tmps0 args i tt).get j = some sv → ∃ v, conc ρ sv = some v ∧ (pre ++ us ++ List.replicate m undef)[j]? = some v
  | [], us, i, tt, pre, m, h, hl, ht, j, sv, hj => by
    obtain ⟨hlt, v, h1, h2⟩ := ht j sv hj
    refine ⟨v, h1, ?_⟩
    rw [List.append_assoc, List.getElem?_append_left (by omega)]
    exact h2
  | x :: xs, us, i, tt, pre, m, h, hl, ht, j, sv, hj => by
    obtain ⟨u, us', h1, h2, rfl⟩ := concs_cons_iff.1 h
    have := tmps0_ok xs us' (i + 1) (tt.put (some x) i) (pre ++ [u]) m h2 (by simp [hl]) (fun j' sv' hj' => by
      rw [T.get_put] at hj'
      by_cases e : j' = i
      · rw [if_pos e] at hj'
        cases hj'
        subst e
        exact ⟨by omega, u, h1, by rw [List.getElem?_append_right (by omega)]; simp [hl]⟩
      · rw [if_neg e] at hj'
        obtain ⟨hlt, v, g1, g2⟩ := ht j' sv' hj'
        exact ⟨by omega, v, g1, by rw [List.getElem?_append_left (by omega)]; exact g2⟩) j sv hj
    simpa using this

theorem TRel0 {ρ : Nm} {args : List SV} {us : List Value} {n : Nat} (h : concs ρ args = some us) (hn : args.length ≤ n) : TRel ρ n (tmps0 args 0 .leaf) (us.toArray ++ Array.replicate (n - us.toArray.size) undef) := by
  have hl := concs_length h
  refine ⟨by simp; omega, fun i sv hi => ?_⟩
  obtain ⟨v, h1, h2⟩ := tmps0_ok args us 0 .leaf [] (n - us.length) h rfl (fun j sv hj => by simp [T.get_leaf] at hj) i sv hi
  refine ⟨v, h1, ?_⟩
  rw [← h2]
  simp [← Array.getElem?_toList]

/-- How a frame ends. -/
def Out (P : Program) (mode : Mode) (f : FuncId) (m : Machine) (cs : List Frame) (cv : Value) (w' : World) : Prop := match mode with
  | .fn => ∃ fr', Steps P m (lone fr' cs w') ∧ fr'.fn = f ∧ fr'.leaving P w' (.returned cv)
  | .round _ => ∀ c cs', cs = c :: cs' → Steps P m (lone (c.finish cv) cs' w')

theorem Out.of_steps {P : Program} {mode : Mode} {f : FuncId} {m m1 : Machine} {cs : List Frame} {cv : Value} {w' : World} (h : Steps P m m1) (k : Out P mode f m1 cs cv w') : Out P mode f m cs cv w' := by
  cases mode with
  | fn => obtain ⟨fr', h1, h2, h3⟩ := k; exact ⟨fr', h.trans h1, h2, h3⟩
  | round l => exact fun c cs' e => h.trans (k c cs' e)

/-- The loop that a frame is a round of. -/
def MRel (ρ : Nm) (mode : Mode) (ro : Option Nat) (ds : List Nat) : Prop := match mode with
  | .fn => ro = none
  | .round l => ds = [] ∧ ∃ b c, ρ l = some (b, c) ∧ ro = some b

theorem MRel.mono {ρ ρ' : Nm} (h : Sub ρ ρ') {mode : Mode} {ro : Option Nat} {ds : List Nat} (r : MRel ρ mode ro ds) : MRel ρ' mode ro ds := by
  cases mode with
  | fn => exact r
  | round l => obtain ⟨h1, b, c, h2, h3⟩ := r; exact ⟨h1, b, c, h _ _ h2, h3⟩

section
variable {cx : Cx} {B : Nat} {ρ : Nm} {w : World} {s s' : St}

/-- The record of a loop is changed. -/
theorem setLoop_ok (hR : Rel cx B ρ w s) {l b c : Nat} (hl : ρ l = some (b, c)) {st : LoopState} {p : Option (Option Code)} (h : setLoop s l st p = some s') :
    ∃ r w', w.heap[b]? = some (.loop r) ∧ (∀ r', r' = { r with state := st, pending := p.getD r.pending } → w' = { w with heap := w.heap.setIfInBounds b (.loop r') }) ∧ Rel cx B ρ w' s' ∧ Ext s s' ρ ρ w w' ∧
      ∀ st0 p0 a1 a2 a3 a4 a5 a6 a7, s.see l = some (.loop st0 p0 a1 a2 a3 a4 a5 a6 a7) → r.state = st0 ∧ r.pending = p0 := by
  unfold setLoop at h
  split at h
  · rename_i st1 p1 fn nt tt params as body d hs
    cases h
    obtain ⟨b', c', ob, h1, h2, h3, tmps, db, dc, h4, h5, rfl⟩ := hR.obj l _ hs
    rw [hl] at h1
    cases h1
    have hset := set_ok hR hs hl (ob := .loop { state := st, pending := p.getD p1, fn := fn, tmps := tmps, params := params.toArray, assign := as, body := body, defers := db }) (Upd.mk' (heap_lt h3) (d := w.drawn)) (.loop st (p.getD p1) fn nt tt params as body d) ⟨tmps, db, dc, h4, h5, rfl⟩
    refine ⟨_, _, h3, fun r' hr' => by subst hr'; rfl, hset.1, hset.2, fun st0 p0 a1 a2 a3 a4 a5 a6 a7 h0 => ?_⟩
    rw [hs] at h0
    cases h0
    exact ⟨rfl, rfl⟩
  · cases h

theorem setLoop_next {l : Nat} {st : LoopState} {p : Option (Option Code)} (h : setLoop s l st p = some s') : s'.next = s.next := by
  unfold setLoop at h
  split at h
  · cases h; rfl
  · cases h

theorem run_setObj_loop {P : Program} {b : Nat} {r : Loop} (h : w.heap[b]? = some (.loop r)) (o : Obj) : (setObj b o).run P w = .ok () { w with heap := w.heap.setIfInBounds b o } := by
  simp [setObj, Sem.run, h]

theorem leave_ok (hR : Rel cx B ρ w s) {mode : Mode} {f : FuncId} {ds : List Nat} {nt : Nat} {tt : T SV} {tmps : Array Value} {jump : Option Code} {v : SV} (h : leave cx mode f ds tt s jump = some (v, s')) (hT : TRel ρ nt tt tmps) {ro : Option Nat} (hM : MRel ρ mode ro ds) {defs : List Deferred} (hd : dconc ρ ds = some defs)
    {todo : List Item} {cs : List Frame}
    (hfn : mode = .fn → jump = none ∨ jump = some .ret → step cx.P (lone (fr f tmps todo defs none) cs w) = .next (lone { fr f tmps todo defs none with mode := .returning } cs w))
    (hround : ∀ l c cs' v w', ro = some l → defs = [] → cs = c :: cs' → (Instr.endRound l jump).run cx.P w = .ok v w' → step cx.P (lone (fr f tmps todo defs ro) cs w) = .next (lone (c.finish v) cs' w')) :
    ∃ w' cv, Out cx.P mode f (lone (fr f tmps todo defs ro) cs w) cs cv w' ∧ conc ρ v = some cv ∧ Rel cx B ρ w' s' ∧ Ext s s' ρ ρ w w' := by
  cases mode with
  | fn =>
    obtain rfl : ro = none := hM
    simp only [leave] at h
    split at h
    · rename_i fn hj hfun
      split at h
      · rename_i s1 hs1
        simp only [Option.map_eq_some_iff, Prod.mk.injEq] at h
        obtain ⟨v', hv, rfl, rfl⟩ := h
        have hjj : jump = none ∨ jump = some .ret := by
          cases jump with
          | none => exact .inl rfl
          | some c => cases c <;> first | exact .inr rfl | (simp at hj)
        obtain ⟨w1, g1, g2, g3⟩ := takeAll_ok (f := f) (tmps := tmps) (todo := todo) (cs := cs) hR hs1 hd
        obtain ⟨cv, g4, g5⟩ := results_ok g2 hT hv
        refine ⟨w1, cv, ⟨_, .head (hfn rfl hjj) g1, rfl, ?_⟩, g4, g2, g3⟩
        exact ⟨rfl, rfl, rfl, fn, hfun, g5⟩
      · cases h
    · cases h
  | round l =>
    obtain ⟨rfl, b, c, hb, rfl⟩ := hM
    simp only [dconc, Option.some.injEq] at hd
    subst hd
    simp only [leave, Option.map_eq_some_iff, Prod.mk.injEq] at h
    obtain ⟨s1, hs1, rfl, rfl⟩ := h
    obtain ⟨r, w', h1, h2, h3, h4, _⟩ := setLoop_ok hR hb hs1
    have hw := h2 _ rfl
    refine ⟨w', .bool jump.isNone, fun c' cs' hcs => .one (hround b c' cs' _ _ rfl rfl hcs ?_), ?_, h3, h4⟩
    · simp only [Instr.endRound, Sem.run_bind, run_getLoop h1, Result.andThen_ok, run_setObj_loop h1, Sem.run_pure]
      rw [hw]
      cases jump <;> rfl
    · cases jump <;> exact conc_lit _ _

theorem leave_next {mode : Mode} {f : FuncId} {ds : List Nat} {tt : T SV} {jump : Option Code} {v : SV} (h : leave cx mode f ds tt s jump = some (v, s')) : s'.next = s.next := by
  cases mode with
  | fn =>
    simp only [leave] at h
    split at h
    · split at h
      · rename_i hs1
        simp only [Option.map_eq_some_iff, Prod.mk.injEq] at h
        obtain ⟨v', hv, rfl, rfl⟩ := h
        exact takeAll_next hs1
      · cases h
    · cases h
  | round l =>
    simp only [leave, Option.map_eq_some_iff, Prod.mk.injEq] at h
    obtain ⟨s1, hs1, rfl, rfl⟩ := h
    exact setLoop_next hs1

theorem tasks_next {r : Mode → FuncId → List Nat → Nat → T SV → List Item → St → Option (SV × St)} (hr : ∀ mode f ds nt tt todo s v s', r mode f ds nt tt todo s = some (v, s') → s.next ≤ s'.next) : NextOK (tasksOf cx r) := by
  intro t s v s' h
  unfold tasksOf at h
  split at h
  · split at h
    · split at h
      · split at h
        · cases h; exact Nat.le_refl _
        · split at h
          · exact hr _ _ _ _ _ _ _ _ _ h
          · cases h
      · cases h
    · cases h
  · exact hr _ _ _ _ _ _ _ _ _ h

theorem run_next : ∀ (n : Nat) (mode : Mode) (f : FuncId) (ds : List Nat) (nt : Nat) (tt : T SV) (todo : List Item) (s : St) (v : SV) (s' : St), run cx n mode f ds nt tt todo s = some (v, s') → s.next ≤ s'.next
  | 0, mode, f, ds, nt, tt, todo, s, v, s', h => by simp [run] at h
  | n + 1, mode, f, ds, nt, tt, todo, s, v, s', h => by
    have ih := run_next n
    have hn := tasks_next (cx := cx) ih
    unfold run at h
    dsimp only at h
    split at h
    · exact Nat.le_of_eq (leave_next h).symm
    · split at h
      · exact Nat.le_of_eq (leave_next h).symm
      · exact ih _ _ _ _ _ _ _ _ _ h
      · exact ih _ _ _ _ _ _ _ _ _ h
      · exact ih _ _ _ _ _ _ _ _ _ h
      · split at h
        · exact ih _ _ _ _ _ _ _ _ _ h
        · exact ih _ _ _ _ _ _ _ _ _ h
        · cases h
      · exact ih _ _ _ _ _ _ _ _ _ h
      · exact ih _ _ _ _ _ _ _ _ _ h
      · exact ih _ _ _ _ _ _ _ _ _ h
      · split at h
        · exact ih _ _ _ _ _ _ _ _ _ h
        · exact Nat.le_of_eq (leave_next h).symm
      · split at h
        · split at h
          · rename_i h1
            exact Nat.le_trans (runOps_next hn h1) (ih _ _ _ _ _ _ _ _ _ h)
          · cases h
        · split at h
          · rename_i h1
            exact Nat.le_trans (runRegion_next hn h1) (ih _ _ _ _ _ _ _ _ _ h)
          · cases h
      · split at h
        · cases h
        · split at h
          · cases h
          · split at h
            · cases h
            · cases h
            · split at h
              · cases h
              · rename_i h1
                have g1 := hn _ _ _ _ h1
                split at h
                · split at h
                  · cases h
                  · split at h
                    · rename_i h2
                      have g2 := ih _ _ _ _ _ _ _ _ _ h
                      have g3 := setLoop_next h2
                      cases mode with
                      | fn => exact Nat.le_trans (Nat.le_succ_of_le (Nat.le_succ _)) (Nat.le_trans g1 (by rw [← g3]; exact g2))
                      | round l => exact Nat.le_trans (Nat.le_succ _) (Nat.le_trans g1 (by rw [← g3]; exact g2))
                    · cases h
                · cases h
      · cases h
    · exact ih _ _ _ _ _ _ _ _ _ h
    · exact ih _ _ _ _ _ _ _ _ _ h
    · exact ih _ _ _ _ _ _ _ _ _ h
    · split at h
      · split at h
        · split at h
          · rename_i h1
            have g := ih _ _ _ _ _ _ _ _ _ h
            rw [setLoop_next h1] at g
            exact g
          · cases h
        · cases h
      · cases h
    · cases h

theorem takeAll_kp : ∀ {ds : List Nat} {s s' : St}, takeAll ds s = some s' → Kp s s'
  | [], s, s', h => by simp only [takeAll, Option.some.injEq] at h; rw [h]; exact Kp.refl _
  | d :: l, s, s', h => by
    simp only [takeAll] at h
    split at h
    · rename_i h0
      have h1 := takeAll_kp h
      exact (Kp.kill h0).trans h1
    · cases h

theorem setLoop_kp {l : Nat} {st : LoopState} {p : Option (Option Code)} (h : setLoop s l st p = some s') : Kp s s' := by
  unfold setLoop at h
  split at h
  · rename_i hs
    cases h
    exact Kp.set hs _
  · cases h

theorem leave_kp {mode : Mode} {f : FuncId} {ds : List Nat} {tt : T SV} {jump : Option Code} {v : SV} (h : leave cx mode f ds tt s jump = some (v, s')) : Kp s s' := by
  cases mode with
  | fn =>
    simp only [leave] at h
    split at h
    · split at h
      · rename_i hs1
        simp only [Option.map_eq_some_iff, Prod.mk.injEq] at h
        obtain ⟨v', hv, rfl, rfl⟩ := h
        exact takeAll_kp hs1
      · cases h
    · cases h
  | round l =>
    simp only [leave, Option.map_eq_some_iff, Prod.mk.injEq] at h
    obtain ⟨s1, hs1, rfl, rfl⟩ := h
    exact setLoop_kp hs1

theorem tasks_kp {r : Mode → FuncId → List Nat → Nat → T SV → List Item → St → Option (SV × St)} (hr : ∀ mode f ds nt tt todo s v s', r mode f ds nt tt todo s = some (v, s') → Kp s s') : KpOK (tasksOf cx r) := by
  intro t s v s' h
  unfold tasksOf at h
  split at h
  · split at h
    · split at h
      · split at h
        · cases h; exact Kp.refl _
        · split at h
          · exact hr _ _ _ _ _ _ _ _ _ h
          · cases h
      · cases h
    · cases h
  · exact hr _ _ _ _ _ _ _ _ _ h

theorem run_kp : ∀ (n : Nat) (mode : Mode) (f : FuncId) (ds : List Nat) (nt : Nat) (tt : T SV) (todo : List Item) (s : St) (v : SV) (s' : St), run cx n mode f ds nt tt todo s = some (v, s') → Kp s s'
  | 0, mode, f, ds, nt, tt, todo, s, v, s', h => by simp [run] at h
  | n + 1, mode, f, ds, nt, tt, todo, s, v, s', h => by
    have ih := run_kp n
    have hn := tasks_kp (cx := cx) ih
    unfold run at h
    dsimp only at h
    split at h
    · exact leave_kp h
    · split at h
      · exact leave_kp h
      · exact ih _ _ _ _ _ _ _ _ _ h
      · exact ih _ _ _ _ _ _ _ _ _ h
      · exact ih _ _ _ _ _ _ _ _ _ h
      · split at h
        · exact ih _ _ _ _ _ _ _ _ _ h
        · exact ih _ _ _ _ _ _ _ _ _ h
        · cases h
      · exact ih _ _ _ _ _ _ _ _ _ h
      · exact ih _ _ _ _ _ _ _ _ _ h
      · exact ih _ _ _ _ _ _ _ _ _ h
      · split at h
        · exact ih _ _ _ _ _ _ _ _ _ h
        · exact leave_kp h
      · split at h
        · split at h
          · rename_i h1
            exact (runOps_kp hn h1).trans (ih _ _ _ _ _ _ _ _ _ h)
          · cases h
        · split at h
          · rename_i h1
            exact (runRegion_kp hn h1).trans (ih _ _ _ _ _ _ _ _ _ h)
          · cases h
      · split at h
        · cases h
        · split at h
          · cases h
          · split at h
            · cases h
            · cases h
            · split at h
              · cases h
              · rename_i h1
                have g1 := hn _ _ _ _ h1
                split at h
                · split at h
                  · cases h
                  · split at h
                    · rename_i h2
                      have g2 := ih _ _ _ _ _ _ _ _ _ h
                      have g3 := setLoop_kp h2
                      cases mode with
                      | fn => exact (Kp.new _ _).trans ((Kp.new _ _).trans (g1.trans (g3.trans g2)))
                      | round l => exact (Kp.new _ _).trans (g1.trans (g3.trans g2))
                    · cases h
                · cases h
      · cases h
    · exact ih _ _ _ _ _ _ _ _ _ h
    · exact ih _ _ _ _ _ _ _ _ _ h
    · exact ih _ _ _ _ _ _ _ _ _ h
    · split at h
      · split at h
        · split at h
          · rename_i h1
            exact (setLoop_kp h1).trans (ih _ _ _ _ _ _ _ _ _ h)
          · cases h
        · cases h
      · cases h
    · cases h
end
end Go.Proofs.YtdkkblkbonjjgabGreatDoor.Ev

namespace Go.Proofs.YtdkkblkbonjjgabGreatDoor.Ev
open Go
variable [Env]

/-- What a run of a frame comes to. -/
def RunOK (cx : Cx) (B : Nat) (r : Mode → FuncId → List Nat → Nat → T SV → List Item → St → Option (SV × St)) : Prop :=
  ∀ mode f ds nt tt todo s v s', r mode f ds nt tt todo s = some (v, s') → ∀ ρ w tmps defs ro cs, Rel cx B ρ w s → TRel ρ nt tt tmps → Fresh ρ s.next s'.next → MRel ρ mode ro ds → dconc ρ ds = some defs →
    ∃ ρ' w' cv, Out cx.P mode f (lone (fr f tmps todo defs ro) cs w) cs cv w' ∧ conc ρ' v = some cv ∧ Rel cx B ρ' w' s' ∧ Ext s s' ρ ρ' w w'

theorem argEq1_ok {ρ ρ' : Nm} {a b : SV} (h : argEq1 a b = true) : conc ρ a = conc ρ' b := by
  unfold argEq1 at h
  split at h
  · simp only [Bool.and_eq_true, decide_eq_true_eq] at h
    rw [conc_lit, conc_lit, h.1, h.2]
  · rw [conc_lit, conc_lit, beq_iff_eq.1 h]
  · rw [conc_lit, conc_lit, bytes_beq h]
  · simp only [Bool.and_eq_true, decide_eq_true_eq] at h
    simp only [conc, h.1, IE.beq_ok _ _ h.2]
  · simp only [conc, SE.beq_ok _ _ h]
  · cases h

theorem argsEq1_ok {ρ ρ' : Nm} : ∀ {a b : List SV}, argsEq1 a b = true → concs ρ a = concs ρ' b
  | [], [], _ => by simp [concs]
  | x :: a, y :: b, h => by
    simp only [argsEq1, Bool.and_eq_true] at h
    simp only [concs, argEq1_ok (ρ := ρ) (ρ' := ρ') h.1, argsEq1_ok (ρ := ρ) (ρ' := ρ') h.2]
  | [], _ :: _, h => by cases h
  | _ :: _, [], h => by cases h

theorem argEq_ok {ρ ρ' : Nm} {a b : SV} (h : argEq a b = true) : conc ρ a = conc ρ' b := by
  unfold argEq at h
  split at h
  · simp only [conc, argsEq1_ok (ρ := ρ) (ρ' := ρ') h]
  · exact argEq1_ok h

theorem argsEq_ok {ρ ρ' : Nm} : ∀ {a b : List SV}, argsEq a b = true → concs ρ a = concs ρ' b
  | [], [], _ => by simp [concs]
  | x :: a, y :: b, h => by
    simp only [argsEq, Bool.and_eq_true] at h
    simp only [concs, argEq_ok (ρ := ρ) (ρ' := ρ') h.1, argsEq_ok (ρ := ρ) (ρ' := ρ') h.2]
  | [], _ :: _, h => by cases h
  | _ :: _, [], h => by cases h

theorem knownCall_mem {f : FuncId} {args : List SV} {r : SV} : ∀ {cs : List (FuncId × List SV × SV)}, knownCall cs f args = some r → ∃ l, (f, l, r) ∈ cs ∧ argsEq l args = true
  | [], h => by cases h
  | (g, l, r') :: cs, h => by
    simp only [knownCall] at h
    split at h
    · rename_i hb
      simp only [Bool.and_eq_true] at hb
      cases h
      have := beq_eq hb.1
      subst this
      exact ⟨l, List.mem_cons_self .., hb.2⟩
    · obtain ⟨l', h1, h2⟩ := knownCall_mem h
      exact ⟨l', List.mem_cons_of_mem _ h1, h2⟩

theorem conc_none {ρ : Nm} {s : SV} {v : Value} (h : conc (fun _ => none) s = some v) : conc ρ s = some v := conc_mono (fun _ _ e => by cases e) _ _ h

theorem knownCall_ok {cx : Cx} {B : Nat} {ρ : Nm} {w : World} {s : St} {f : FuncId} {args : List SV} {r : SV} {us : List Value} (h : knownCall cx.calls f args = some r) (hu : concs ρ args = some us) (hR : Rel cx B ρ w s) :
    ∃ cv, conc ρ r = some cv ∧ Calls cx.P f us.toArray w fun e w' => e = .returned cv ∧ RowKit.Below w.heap.size w w' := by
  obtain ⟨l, h1, h2⟩ := knownCall_mem h
  obtain ⟨h3, h4, h5⟩ := cx.cok _ h1
  obtain ⟨cv, hcv⟩ := Option.isSome_iff_exists.1 h5
  refine ⟨cv, conc_none hcv, h3 w us cv (fun b i v e => (hR.old b i v e).2) ?_ hcv⟩
  rw [← hu]
  exact argsEq_ok h2

theorem Rel.below {cx : Cx} {B : Nat} {ρ : Nm} {w w' : World} {s : St} (hR : Rel cx B ρ w s) (h : RowKit.Below w.heap.size w w') : Rel cx B ρ w' s where
  obj := fun n o hn => by
    obtain ⟨b, c, ob, h1, h2, h3, h4⟩ := hR.obj n o hn
    exact ⟨b, c, ob, h1, h2, by rw [h.block b (heap_lt h3)]; exact h3, h4⟩
  inj := hR.inj
  bound := hR.bound
  old := fun b i v e => by
    obtain ⟨h1, h2⟩ := hR.old b i v e
    exact ⟨h1, by rw [cell_of_heap (w := w) (h.block b (Nat.lt_of_lt_of_le h1 hR.size))]; exact h2⟩
  size := Nat.le_trans hR.size h.size

theorem Ext.below {cx : Cx} {B : Nat} {ρ : Nm} {w w' : World} {s : St} (hR : Rel cx B ρ w s) (h : RowKit.Below w.heap.size w w') : Ext s s ρ ρ w w' where
  le := Nat.le_refl _
  sub := Sub.refl _
  dom := fun n h h' => absurd h h'
  newb := fun n b c h h' => by rw [h] at h'; cases h'
  frame := fun b hb _ => h.block b hb
  size := h.size
  tape := h.tape
  os := h.os
  output := h.output
  hid := rfl
  seen := fun n o h _ => ⟨o, h⟩
  wr := fun _ h => h
  keepw := fun n _ _ => ⟨rfl, fun o b c hs hb => by
    obtain ⟨b', c', ob', e1, _, e3, _⟩ := hR.obj n o hs
    rw [hb] at e1; cases e1
    exact h.block b (heap_lt e3)⟩

theorem tasks_ok {cx : Cx} {B : Nat} {r : Mode → FuncId → List Nat → Nat → T SV → List Item → St → Option (SV × St)} (hr : RunOK cx B r) : OneOK cx B (tasksOf cx r) := by
  intro t s v s' h
  unfold tasksOf at h
  split at h
  · rename_i g args
    split at h
    · rename_i fn hfn
      split at h
      · rename_i c hc
        split at h
        · rename_i kv hk
          cases h
          refine ⟨fun g' args' e => by cases e; exact ⟨fn, hfn, by rw [hc]; rfl⟩, ?_⟩
          rintro ρ w hR hf fm ⟨us, hus, rfl⟩ c0 cs
          obtain ⟨cv, hcv, hC⟩ := knownCall_ok hk hus hR
          obtain ⟨e, w', fr', ⟨rfl, hb⟩, h1, _, h3⟩ := hC (c0 :: cs)
          exact ⟨ρ, w', cv, h1.trans (.one (step_leave_returned h3)), hcv, hR.below hb, Ext.below hR hb⟩
        split at h
        · rename_i hle
          refine ⟨fun g' args' e => by cases e; exact ⟨fn, hfn, by rw [hc]; rfl⟩, ?_⟩
          rintro ρ w hR hf fm ⟨us, hus, rfl⟩ c0 cs
          have hT := TRel0 hus (ble_le hle)
          obtain ⟨ρ', w', cv, ⟨fr', h1, h2, h3⟩, h4, h5, h6⟩ := hr _ _ _ _ _ _ _ _ _ h ρ w _ [] none (c0 :: cs) hR hT hf rfl rfl
          have he : Frame.enter cx.P g us.toArray .normal = fr g (us.toArray ++ Array.replicate (fn.ntmps - us.toArray.size) undef) [.code c] [] none := by
            simp [Frame.enter, hfn, hc, fr]
          rw [he]
          exact ⟨ρ', w', cv, h1.trans (.one (step_leave_returned h3)), h4, h5, h6⟩
        · cases h
      · cases h
    · cases h
  · rename_i l g nt tt as body
    refine ⟨(fun g' args' e => by cases e), ?_⟩
    rintro ρ w hR hf fm ⟨lb, lc, tmps, hl, hT, rfl⟩ c0 cs
    obtain ⟨ρ', w', cv, h1, h4, h5, h6⟩ := hr _ _ _ _ _ _ _ _ _ h ρ w tmps [] (some lb) (c0 :: cs) hR hT hf ⟨rfl, lb, lc, hl, rfl⟩ rfl
    exact ⟨ρ', w', cv, h1 c0 cs rfl, h4, h5, h6⟩

theorem getLoopD_ok {cx : Cx} {B : Nat} {ρ : Nm} {w : World} {s : St} (hR : Rel cx B ρ w s) {l d : Nat} (h : (match s.see l with | some (.loop _ _ _ _ _ _ _ _ d) => some d | _ => none) = some d) : ∃ b c r dc, ρ l = some (b, c) ∧ w.heap[b]? = some (.loop r) ∧ ρ d = some (r.defers, dc) := by
  split at h
  · rename_i st p fn nt tt params as body d' hs
    cases h
    obtain ⟨b, c, ob, h1, _, h3, tmps, db, dc, h4, h5, rfl⟩ := hR.obj l _ hs
    exact ⟨b, c, _, dc, h1, h3, h5⟩
  · cases h

theorem range_tail {cx : Cx} {B : Nat} (hG : Good cx.P) {r : Mode → FuncId → List Nat → Nat → T SV → List Item → St → Option (SV × St)} (ih : RunOK cx B r) (hrn : ∀ mode f ds nt tt todo s v s', r mode f ds nt tt todo s = some (v, s') → s.next ≤ s'.next) {mode : Mode} {f : FuncId} {ds : List Nat} {nt : Nat} {tt : T SV} {s s' s2 s3 s4 : St} {v v1 : SV} {ρ ρb : Nm} {w wb : World}
    {tmps : Array Value} {defs mark : List Deferred} {ro : Option Nat} {cs : List Frame} {k : List Item} {l lb lc : Nat} {fo : Operand} {params : Array Tmp} {as body : Code} {fv : SV} {t : Task}
    (hT : TRel ρ nt tt tmps) (hf : Fresh ρ s.next s'.next) (hfv : eval tt fo = some fv) (hRb : Rel cx B ρb wb s2) (hl : ρb l = some (lb, lc)) (hE : Ext s s2 ρ ρb w wb) (ht : target s2 fv [.yl l] = some t)
    (hnr : ∀ a1 a2 a3 a4 a5 a6, t ≠ .round a1 a2 a3 a4 a5 a6) (h1 : tasksOf cx r t s2 = some (v1, s3)) {st : LoopState} {p : Option Code} {a1 : FuncId} {a2 : Nat} {a3 : T SV} {a4 : List Tmp} {a5 a6 : Code} {a7 : Nat} (hsee : s3.see l = some (.loop st p a1 a2 a3 a4 a5 a6 a7)) (hst : st ≠ .busy)
    (hs4 : setLoop s3 l .exhausted none = some s4) (h : r mode f ds nt tt ((p.map Item.code).toList ++ k) s4 = some (v, s')) (hM : MRel ρb mode ro ds) (hd : dconc ρb ds = some (mark ++ defs))
    (henter : (Instr.enterLoop f tmps params as body ro).run cx.P w = .ok (lb, mark) wb) :
    ∃ ρ' w' cv, Out cx.P mode f (lone (fr f tmps (.code (.rangeFunc fo params as body) :: k) defs ro) cs w) cs cv w' ∧ conc ρ' v = some cv ∧ Rel cx B ρ' w' s' ∧ Ext s s' ρ ρ' w w' := by
  have hn := tasks_next (cx := cx) hrn
  have n1 := hn _ _ _ _ h1
  have n2 := setLoop_next hs4
  have n3 := hrn _ _ _ _ _ _ _ _ _ h
  obtain ⟨hfun, htask⟩ := tasks_ok ih t s2 v1 s3 h1
  have hfb : Fresh ρb s2.next s'.next := hf.step hE
  have hyl : concs ρb [.yl l] = some [.func (.yield lb) #[] #[]] := concs_cons (by simp [conc, hl]) (concs_nil _)
  have hev := conc_mono hE.sub _ _ (eval_ok (f := f) (k := []) (ds := defs) (ro := ro) hT hfv)
  obtain ⟨d, g1, g2⟩ := target_ok hG hRb ht hev hyl hfun
  rcases g2 with ⟨g, as', g3, g4⟩ | ⟨lb', g, ts, as', body', g3, g4⟩
  · obtain ⟨ρ3, w3, cv, e1, e2, e3, e4⟩ := htask ρb wb hRb (hfb.sub (Nat.le_refl _) (by omega)) _ g4 (fr f tmps (.inRangeFunc lb :: k) (mark ++ defs) ro) cs
    rw [fr_finish_loop] at e1
    have hl3 := e4.sub _ _ hl
    obtain ⟨r0, w4, q1, q2, q3, q4, q5⟩ := setLoop_ok e3 hl3 hs4
    have hw4 := q2 _ rfl
    obtain ⟨q6, q7⟩ := q5 _ _ _ _ _ _ _ _ _ hsee
    have hend : (Instr.endLoop lb).run cx.P w3 = .ok p w4 := by
      have hnb : (r0.state == LoopState.busy) = false := by
        rw [q6]
        cases st <;> first | rfl | exact absurd rfl hst
      simp only [Instr.endLoop, Sem.run_bind, run_getLoop q1, Result.andThen_ok, hnb, Bool.false_eq_true, if_false, run_setObj_loop q1, Sem.run_pure]
      rw [hw4, q7]
      rfl
    have hE4 : Ext s s4 ρ ρ3 w w4 := (hE.trans e4).trans q4
    obtain ⟨ρ', w', cv', o1, o2, o3, o4⟩ := ih _ _ _ _ _ _ _ _ _ h ρ3 w4 tmps (mark ++ defs) ro cs q3 (hT.mono hE4.sub) (hf.step hE4) (hM.mono e4.sub) (dconc_mono e4.sub hd)
    refine ⟨ρ', w', cv', o1.of_steps (.head (st_rangeFunc henter ?_ g3) (e1.trans (.one (st_endRangeFunc hend)))), o2, o3, hE4.trans o4⟩
    simp only [resolve, List.map_toArray, List.map_cons, List.map_nil]
    exact g1 wb
  · exfalso
    cases t with
    | round => exact hnr _ _ _ _ _ _ rfl
    | call g' args' =>
      obtain ⟨us, _, e⟩ := g4
      have := congrArg Frame.roundOf e
      simp [Frame.round, Frame.enter] at this

set_option maxHeartbeats 1000000 in
theorem run_ok {cx : Cx} {B : Nat} (hG : Good cx.P) : ∀ n, RunOK cx B (run cx n)
  | 0 => by intro mode f ds nt tt todo s v s' h; simp [run] at h
  | n + 1 => by
    intro mode f ds nt tt todo s v s' h ρ w tmps defs ro cs hR hT hf hM hd
    have ih := run_ok (B := B) hG n
    have hih := tasks_ok ih
    have hn := tasks_next (cx := cx) (run_next (cx := cx) n)
    have go : ∀ {todo' : List Item}, run cx n mode f ds nt tt todo' s = some (v, s') → step cx.P (lone (fr f tmps todo defs ro) cs w) = .next (lone (fr f tmps todo' defs ro) cs w) →
        ∃ ρ' w' cv, Out cx.P mode f (lone (fr f tmps todo defs ro) cs w) cs cv w' ∧ conc ρ' v = some cv ∧ Rel cx B ρ' w' s' ∧ Ext s s' ρ ρ' w w' := by
      intro todo' h' hst
      obtain ⟨ρ', w', cv, h1, h2, h3, h4⟩ := ih _ _ _ _ _ _ _ _ _ h' ρ w tmps defs ro cs hR hT hf hM hd
      exact ⟨ρ', w', cv, h1.of_steps (.one hst), h2, h3, h4⟩
    have on : ∀ {todo' : List Item} {s1 : St} {tt1 : T SV} {tmps1 : Array Value} {ρ1 : Nm} {w1 : World}, run cx n mode f ds nt tt1 todo' s1 = some (v, s') → Steps cx.P (lone (fr f tmps todo defs ro) cs w) (lone (fr f tmps1 todo' defs ro) cs w1) →
        TRel ρ1 nt tt1 tmps1 → Rel cx B ρ1 w1 s1 → Ext s s1 ρ ρ1 w w1 →
        ∃ ρ' w' cv, Out cx.P mode f (lone (fr f tmps todo defs ro) cs w) cs cv w' ∧ conc ρ' v = some cv ∧ Rel cx B ρ' w' s' ∧ Ext s s' ρ ρ' w w' := by
      intro todo' s1 tt1 tmps1 ρ1 w1 h' hst hT1 hR1 hE
      obtain ⟨ρ', w', cv, h1, h2, h3, h4⟩ := ih _ _ _ _ _ _ _ _ _ h' ρ1 w1 tmps1 defs ro cs hR1 hT1 (hf.step hE) (hM.mono hE.sub) (dconc_mono hE.sub hd)
      exact ⟨ρ', w', cv, h1.of_steps hst, h2, h3, hE.trans h4⟩
    have lv : ∀ {jump : Option Code}, leave cx mode f ds tt s jump = some (v, s') →
        (mode = .fn → jump = none ∨ jump = some .ret → step cx.P (lone (fr f tmps todo defs none) cs w) = .next (lone { fr f tmps todo defs none with mode := .returning } cs w)) →
        (∀ l c cs' v w', ro = some l → defs = [] → cs = c :: cs' → (Instr.endRound l jump).run cx.P w = .ok v w' → step cx.P (lone (fr f tmps todo defs ro) cs w) = .next (lone (c.finish v) cs' w')) →
        ∃ ρ' w' cv, Out cx.P mode f (lone (fr f tmps todo defs ro) cs w) cs cv w' ∧ conc ρ' v = some cv ∧ Rel cx B ρ' w' s' ∧ Ext s s' ρ ρ' w w' := by
      intro jump h' h1 h2
      obtain ⟨w', cv, g1, g2, g3, g4⟩ := leave_ok hR h' hT hM hd h1 h2
      exact ⟨ρ, w', cv, g1, g2, g3, g4⟩
    unfold run at h
    dsimp only at h
    split at h
    · exact lv h (fun _ _ => st_end) (fun l c cs' v w' e1 e2 e3 e4 => by subst e1; subst e2; subst e3; exact st_round_end e4)
    · rename_i k
      split at h
      · exact lv h (fun _ _ => st_ret) (fun l c cs' v w' e1 e2 e3 e4 => by subst e1; subst e2; subst e3; exact st_round_ret e4)
      · exact go h st_skip
      · exact go h st_label
      · exact go h st_seq
      · rename_i c x y
        split at h
        · rename_i hc
          have := eval_ok (f := f) (k := []) (ds := defs) (ro := ro) hT hc
          rw [conc_lit] at this
          exact go h (st_cond (t := true) (Option.some.inj this).symm)
        · rename_i hc
          have := eval_ok (f := f) (k := []) (ds := defs) (ro := ro) hT hc
          rw [conc_lit] at this
          exact go h (st_cond (t := false) (Option.some.inj this).symm)
        · cases h
      · exact go h st_block
      · exact go h st_loop
      · exact go h st_scope
      · rename_i id
        split at h
        · rename_i k' hk
          exact go h (st_exit (by rw [← exitTo_eq]; exact hk))
        · rename_i hk
          exact lv h (fun _ hj => by rcases hj with hj | hj <;> cases hj) (fun l c cs' v w' e1 e2 e3 e4 => by subst e1; subst e2; subst e3; exact st_round_exit (by rw [← exitTo_eq]; exact hk) e4)
      · rename_i id ops draw
        split at h
        · split at h
          · rename_i tt1 s1 h1
            have n2 := run_next _ _ _ _ _ _ _ _ _ _ h
            obtain ⟨ρ1, w1, tm1, g1, g2, g3, g4⟩ := runOps_ok (f := f) (k := k) (ds := defs) (ro := ro) (cs := cs) hG hih hn ops.toList 0 (fun j => by simp) h1 hR hT (hf.sub (Nat.le_refl _) n2)
            have he : List.range' 0 ops.toList.length = List.range ops.size := by rw [List.range_eq_range', Array.length_toList]
            rw [he] at g1
            exact on h (.head st_region g1) g2 g3 g4
          · cases h
        · split at h
          · rename_i tt1 s1 hfit h1
            have n2 := run_next _ _ _ _ _ _ _ _ _ _ h
            obtain ⟨ρ1, w1, tm1, g1, g2, g3, g4⟩ := region_ok (f := f) (k := k) (ds := defs) (ro := ro) (cs := cs) hG hih (tasks_kp (cx := cx) (run_kp (cx := cx) n)) hfit h1 (hR.drawn (w.drawn + 1)) hT (hf.sub (Nat.le_refl _) n2) (w.tape w.drawn (.order f id))
            refine on h (.head st_region_draw ?_) g2 g3 g4.drawn
            rw [hG.mixed]
            simp only [Region.schedule, Bool.true_or, if_true]
            exact g1
          · cases h
      · rename_i fo params as body
        split at h
        · cases h
        · rename_i fv hfv
          split at h
          · cases h
          · rename_i d hd'
            split at h
            · cases h
            · cases h
            · rename_i t hnr ht
              split at h
              · cases h
              · rename_i v1 s3 h1
                split at h
                · rename_i st p fn0 nt0 tt0 ps0 as0 body0 d0 hsee
                  split at h
                  · cases h
                  · rename_i hst
                    split at h
                    · rename_i s4 hs4
                      have n1 := hn _ _ _ _ h1
                      have n2 := setLoop_next hs4
                      have n3 := run_next _ _ _ _ _ _ _ _ _ _ h
                      cases mode with
                      | fn =>
                        obtain rfl : ro = none := hM
                        cases hd'
                        have n1' : s.next + 1 + 1 ≤ s3.next := n1
                        have hfr1 : ρ s.next = none := hf s.next (Nat.le_refl _) (by omega)
                        have hfr2 : ρ (s.next + 1) = none := hf (s.next + 1) (by omega) (by omega)
                        obtain ⟨a1, a2⟩ := new_ok hR hfr1 (ob := .deferred (some [])) (Psh.mk' (d := w.drawn)) .defd 0 rfl
                        have hfr2' : (ρ.put s.next (w.heap.size, 0)) (s.new .defd).next = none := by
                          show (ρ.put s.next (w.heap.size, 0)) (s.next + 1) = none
                          rw [Nm.put_ne _ _ (by omega)]
                          exact hfr2
                        have hsub := Nm.put_sub (ρ := ρ.put s.next (w.heap.size, 0)) (p := (({ w with heap := w.heap.push (.deferred (some [])) } : World).heap.size, 0)) hfr2'
                        have hdn : ((ρ.put s.next (w.heap.size, 0)).put (s.new .defd).next (({ w with heap := w.heap.push (.deferred (some [])) } : World).heap.size, 0)) s.next = some (w.heap.size, 0) := hsub _ _ (Nm.put_at _ _ _)
                        obtain ⟨b1, b2⟩ := new_ok a1 hfr2' (ob := .loop { state := .ready, pending := none, fn := f, tmps := tmps, params := params, assign := as, body := body, defers := w.heap.size }) (Psh.mk' (d := w.drawn)) (.loop .ready none f nt tt params.toList as body s.next) 0
                          ⟨tmps, w.heap.size, 0, (hT.mono a2.sub).mono hsub, hdn, by simp⟩
                        refine range_tail hG ih (run_next (cx := cx) n) hT hf hfv b1 (Nm.put_at _ _ _) (a2.trans b2) ht hnr h1 hsee (fun e => hst e) hs4 h rfl (mark := [{ target := .collected w.heap.size, args := #[] }]) ?_ ?_
                        · exact dconc_cons_iff.2 ⟨_, _, defs, hdn, dconc_mono (a2.sub.trans hsub) hd, rfl⟩
                        · simp [Instr.enterLoop]
                          rfl
                      | round l0 =>
                        obtain ⟨rfl, b0, c0, hb0, rfl⟩ := hM
                        have n1' : s.next + 1 ≤ s3.next := n1
                        have hfr1 : ρ s.next = none := hf s.next (Nat.le_refl _) (by omega)
                        obtain ⟨b0', c0', r0, dc, k1, k2, k3⟩ := getLoopD_ok hR hd'
                        rw [hb0] at k1
                        cases k1
                        have hsub := Nm.put_sub (p := (w.heap.size, 0)) hfr1
                        obtain ⟨b1, b2⟩ := new_ok hR hfr1 (ob := .loop { state := .ready, pending := none, fn := f, tmps := tmps, params := params, assign := as, body := body, defers := r0.defers }) (Psh.mk' (d := w.drawn)) (.loop .ready none f nt tt params.toList as body d) 0
                          ⟨tmps, r0.defers, dc, hT.mono hsub, hsub _ _ k3, by simp⟩
                        refine range_tail hG ih (run_next (cx := cx) n) hT hf hfv b1 (Nm.put_at _ _ _) b2 ht hnr h1 hsee (fun e => hst e) hs4 h ⟨rfl, b0, c0, hsub _ _ hb0, rfl⟩ (mark := []) ?_ ?_
                        · exact dconc_mono hsub hd
                        · simp [Instr.enterLoop, run_getLoop k2]
                    · cases h
                · cases h
      · cases h
    · exact go h st_inBlock
    · exact go h st_inScope
    · exact go h st_inLoop
    · rename_i k
      split at h
      · rename_i l
        obtain ⟨rfl, b, c, hb, rfl⟩ := hM
        split at h
        · rename_i hst
          split at h
          · rename_i s1 hs1
            obtain ⟨r, w1, g1, g2, g3, g4, g5⟩ := setLoop_ok hR hb hs1
            have hw := g2 _ rfl
            refine on h (.one (st_beginRound ?_)) hT g3 g4
            have hready : r.state = .ready := by
              unfold loopState at hst
              split at hst
              · rename_i hs
                cases hst
                exact (g5 _ _ _ _ _ _ _ _ _ hs).1
              · cases hst
            simp only [Instr.beginRound, Sem.run_bind, run_getLoop g1, Result.andThen_ok, run_setObj_loop g1, hready]
            rw [hw]
            rfl
          · cases h
        · cases h
      · cases h
    · cases h

/-- THE CALL: what the reckoner says of a call is what the call comes to. -/
theorem call_ok {cx : Cx} {B : Nat} (hG : Good cx.P) {n : Nat} {f : FuncId} {args : List SV} {s s' : St} {v : SV} (h : call cx n f args s = some (v, s')) {ρ : Nm} {w : World} (hR : Rel cx B ρ w s) (hf : Fresh ρ s.next s'.next) {us : List Value} (hus : concs ρ args = some us) :
    Calls cx.P f us.toArray w fun e w' => ∃ ρ' cv, e = .returned cv ∧ conc ρ' v = some cv ∧ Rel cx B ρ' w' s' ∧ Ext s s' ρ ρ' w w' := by
  unfold call at h
  split at h
  · rename_i fn hfn
    split at h
    · rename_i c hc
      split at h
      · rename_i hle
        intro cs
        have hT := TRel0 hus (ble_le hle)
        obtain ⟨ρ', w', cv, ⟨fr', h1, h2, h3⟩, h4, h5, h6⟩ := run_ok hG n _ _ _ _ _ _ _ _ _ h ρ w _ [] none cs hR hT hf rfl rfl
        have he : Frame.enter cx.P f us.toArray .normal = fr f (us.toArray ++ Array.replicate (fn.ntmps - us.toArray.size) undef) [.code c] [] none := by
          simp [Frame.enter, hfn, hc, fr]
        rw [← he] at h1
        exact ⟨.returned cv, w', fr', ⟨ρ', cv, rfl, h4, h5, h6⟩, h1, h2, h3⟩
      · cases h
    · cases h
  · cases h

/-- A call of no memory of ours, with arguments that are told by names, whose result bears no address: it returns this, and below the heap as it was nothing has turned. -/
theorem call_named {cx : Cx} (hG : Good cx.P) {n : Nat} {f : FuncId} {args : List SV} {us : List Value} (hu : concs (fun _ => none) args = some us) {s' : St} {v : SV} {r : Value} (h : call cx n f args noSt = some (v, s')) (hr : conc (fun _ => none) v = some r) {w : World} (hold : ∀ b i v, cx.old b i = some v → w.cell? ⟨b, i, none⟩ = some v) :
    Calls cx.P f us.toArray w fun e w' => e = .returned r ∧ RowKit.Below w.heap.size w w' := by
  have hR : Rel cx w.heap.size (fun _ => none) w noSt := noSt_rel (fun b i v e => by
    have hc := hold b i v e
    refine ⟨?_, hc⟩
    unfold World.cell? at hc
    split at hc
    · rename_i hb; exact heap_lt hb
    · cases hc) (Nat.le_refl _)
  refine (call_ok hG h hR (fun _ _ _ => rfl) hu).mono ?_
  rintro e w' ⟨ρ', cv, rfl, h1, _, h2⟩
  rw [conc_none hr] at h1
  cases h1
  exact ⟨rfl, h2.os, h2.tape, h2.output, h2.size, fun b hb => h2.frame b hb (fun n o c hs => by rw [noSt_see] at hs; cases hs)⟩

/-- A call of no memory of ours, whose result bears no address: it returns this, and below the heap as it was nothing has turned. -/
theorem call_closed {cx : Cx} (hG : Good cx.P) {n : Nat} {f : FuncId} {args : List Value} {s' : St} {r : Value} (h : call cx n f (args.map .lit) noSt = some (.lit r, s')) {w : World} (hold : ∀ b i v, cx.old b i = some v → w.cell? ⟨b, i, none⟩ = some v) :
    Calls cx.P f args.toArray w fun e w' => e = .returned r ∧ RowKit.Below w.heap.size w w' :=
  call_named hG (concs_lits _ _) h (conc_lit _ _) hold
end Go.Proofs.YtdkkblkbonjjgabGreatDoor.Ev
namespace Go.Proofs.YtdkkblkbonjjgabGreatDoor.Ev
open Go
variable [Env]

/-- Variables of the program whose cells are known: (block, cells). -/
def oldL : List (Nat × List Value) → Nat → Nat → Option Value
  | [], _, _ => none
  | (g, l) :: r, b, i => match Nat.beq b g with
    | true => l[i]?
    | false => oldL r b i

omit [Env] in
theorem oldL_ok {w : World} : ∀ {tabs : List (Nat × List Value)}, (∀ x ∈ tabs, ∀ i v, x.2[i]? = some v → w.cell? ⟨x.1, i, none⟩ = some v) → ∀ b i v, oldL tabs b i = some v → w.cell? ⟨b, i, none⟩ = some v
  | [], _, b, i, v, h => by simp [oldL] at h
  | (g, l) :: r, ht, b, i, v, h => by
    simp only [oldL] at h
    split at h
    · rename_i hb
      have := Nat.eq_of_beq_eq_true hb
      subst this
      exact ht _ (List.mem_cons_self ..) i v h
    · exact oldL_ok (fun x hx => ht x (List.mem_cons_of_mem _ hx)) b i v h

omit [Env] in
theorem good_of {P : Program} (hn : (P.funcs.toList.all fun fn => fn.body.isNone || !(fn.name == "runtime.NumGoroutine")) = true) (hm : P.follows .mixedOrders = true) : Good P := by
  refine ⟨fun g fn hf hb => ?_, hm⟩
  have hmem : fn ∈ P.funcs.toList := by
    have : P.funcs.toList[g]? = some fn := by rw [Array.getElem?_toList]; exact hf
    exact List.mem_of_getElem? this
  have := List.all_eq_true.1 hn fn hmem
  simp only [Bool.or_eq_true] at this
  rcases this with h | h
  · cases hbd : fn.body with
    | none => rw [hbd] at hb; cases hb
    | some c => rw [hbd] at h; cases h
  · cases hq : (fn.name == "runtime.NumGoroutine")
    · rfl
    · rw [hq] at h; cases h

/-- Whether the reckoner came to true. -/
def isTrue : Option (SV × St) → Bool
  | some (.lit (.bool true), _) => true
  | _ => false

/-- No names. -/
abbrev env0 : Env := ⟨fun _ => 0, fun _ => ⟨#[]⟩⟩

omit [Env] in
/-- AN EXAMPLE WITHOUT ARGUMENTS: where the reckoner comes to true, the call returns true, and below the heap as it was nothing has turned. -/
theorem closed_true {P : Program} (hG : Good P) {tabs : List (Nat × List Value)} {n : Nat} {f : FuncId} (h : isTrue (@call env0 (@Cx.plain env0 P (oldL tabs)) n f [] noSt) = true) {w : World} (ht : ∀ x ∈ tabs, ∀ i v, x.2[i]? = some v → w.cell? ⟨x.1, i, none⟩ = some v) :
    Calls P f #[] w fun e w' => e = .returned (.bool true) ∧ RowKit.Below w.heap.size w w' := by
  unfold isTrue at h
  split at h
  · rename_i s' hs
    exact @call_closed env0 (@Cx.plain env0 P (oldL tabs)) hG _ _ [] _ _ hs _ (oldL_ok ht)
  · cases h

/-- A CALL WITH NAMED ARGUMENTS: where the reckoner comes to true, the call returns true, and below the heap as it was nothing has turned. -/
theorem named_true {cx : Cx} (hG : Good cx.P) {n : Nat} {f : FuncId} {args : List SV} {us : List Value} (hu : concs (fun _ => none) args = some us) (h : isTrue (call cx n f args noSt) = true) {w : World} (hold : ∀ b i v, cx.old b i = some v → w.cell? ⟨b, i, none⟩ = some v) :
    Calls cx.P f us.toArray w fun e w' => e = .returned (.bool true) ∧ RowKit.Below w.heap.size w w' := by
  unfold isTrue at h
  split at h
  · rename_i s' hs
    exact call_named hG hu hs (conc_lit _ _) hold
  · cases h
end Go.Proofs.YtdkkblkbonjjgabGreatDoor.Ev
