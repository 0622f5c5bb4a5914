/- The reckoner: what its values and its heap stand for; memory, structs and slices. Conditions: those of each lemma. -/
import Derived.Test.YtdkkblkbonjjgabGreatDoorEvS
import Derived.Below
import Derived.Laws.Sem
import Derived.Laws.Cells
import Derived.Orders
import Derived.Laws.Tables
import Derived.IntWalk
import Derived.Lib.Builder
import Derived.Lib.UnsafeStr
set_option linter.unusedSectionVars false
namespace Go.Proofs.YtdkkblkbonjjgabGreatDoor.Ev
open Go

/-! The tree. -/
namespace T
variable {α : Type}
theorem get_leaf (n : Nat) : (T.leaf : T α).get n = none := rfl
theorem get_node_zero (l : T α) (v : Option α) (r : T α) : (T.node l v r).get 0 = v := rfl
theorem get_node_succ (l : T α) (v : Option α) (r : T α) (n : Nat) : (T.node l v r).get (n + 1) = if n % 2 = 0 then l.get (n / 2) else r.get (n / 2) := by
  show (Bool.rec (motive := fun _ => Option α) (r.get (n / 2)) (l.get (n / 2)) (Nat.beq (n % 2) 0)) = _
  by_cases h : n % 2 = 0
  · rw [h]; rfl
  · have : Nat.beq (n % 2) 0 = false := by
      cases hb : Nat.beq (n % 2) 0
      · rfl
      · exact absurd (Nat.eq_of_beq_eq_true hb) h
    rw [this, if_neg h]
theorem even_cases (n : Nat) : (n % 2 = 0 ∧ Nat.beq (Nat.mod n 2) 0 = true) ∨ (¬ n % 2 = 0 ∧ Nat.beq (Nat.mod n 2) 0 = false) := by
  have e : Nat.mod n 2 = n % 2 := rfl
  rw [e]
  by_cases h : n % 2 = 0
  · left; rw [h]; exact ⟨rfl, rfl⟩
  · right
    refine ⟨h, ?_⟩
    cases hb : Nat.beq (n % 2) 0
    · rfl
    · exact absurd (Nat.eq_of_beq_eq_true hb) h
theorem get_putF (a : Option α) : ∀ (f : Nat) (t : T α) (n m : Nat), n < f → (putF a f t n).get m = if m = n then a else t.get m
  | 0, _, _, _, h => by omega
  | f + 1, .leaf, 0, m, _ => by
    show (T.node _ a _).get m = _
    cases m with
    | zero => simp [get_node_zero]
    | succ m => rw [get_node_succ, if_neg (Nat.succ_ne_zero m), get_leaf, get_leaf, ite_self]
  | f + 1, .node l v r, 0, m, _ => by
    show (T.node _ a _).get m = _
    cases m with
    | zero => simp [get_node_zero]
    | succ m => rw [get_node_succ, if_neg (Nat.succ_ne_zero m), get_node_succ]
  | f + 1, .leaf, n + 1, m, _ => by
    have ih := get_putF a f .leaf (n / 2) (m.pred / 2) (by omega)
    show (Bool.rec (motive := fun _ => T α) (T.node .leaf none (putF a f .leaf (n / 2))) (T.node (putF a f .leaf (n / 2)) none .leaf) (Nat.beq (Nat.mod n 2) 0)).get m = _
    rcases even_cases n with ⟨hn, hb⟩ | ⟨hn, hb⟩ <;> rw [hb] <;> dsimp only
    · cases m with
      | zero => rw [get_node_zero, if_neg (show ¬ 0 = n + 1 by omega), get_leaf]
      | succ m =>
        rw [get_node_succ, get_leaf]
        rw [Nat.pred_succ] at ih
        by_cases hm : m % 2 = 0
        · rw [if_pos hm, ih, get_leaf]
          by_cases e : m = n
          · rw [if_pos (by omega), if_pos (by omega)]
          · rw [if_neg (by omega), if_neg (by omega), get_leaf]
        · rw [if_neg hm, if_neg (by omega), get_leaf]
    · cases m with
      | zero => rw [get_node_zero, if_neg (show ¬ 0 = n + 1 by omega), get_leaf]
      | succ m =>
        rw [get_node_succ, get_leaf]
        rw [Nat.pred_succ] at ih
        by_cases hm : m % 2 = 0
        · rw [if_pos hm, if_neg (by omega), get_leaf]
        · rw [if_neg hm, ih, get_leaf]
          by_cases e : m = n
          · rw [if_pos (by omega), if_pos (by omega)]
          · rw [if_neg (by omega), if_neg (by omega), get_leaf]
  | f + 1, .node l v r, n + 1, m, _ => by
    show (Bool.rec (motive := fun _ => T α) (T.node l v (putF a f r (n / 2))) (T.node (putF a f l (n / 2)) v r) (Nat.beq (Nat.mod n 2) 0)).get m = _
    rcases even_cases n with ⟨hn, hb⟩ | ⟨hn, hb⟩ <;> rw [hb] <;> dsimp only
    · have ih := get_putF a f l (n / 2) (m.pred / 2) (by omega)
      cases m with
      | zero => rw [get_node_zero, if_neg (show ¬ 0 = n + 1 by omega), get_node_zero]
      | succ m =>
        rw [get_node_succ, get_node_succ]
        rw [Nat.pred_succ] at ih
        by_cases hm : m % 2 = 0
        · rw [if_pos hm, if_pos hm, ih]
          by_cases e : m = n
          · rw [if_pos (by omega), if_pos (by omega)]
          · rw [if_neg (by omega), if_neg (by omega)]
        · rw [if_neg hm, if_neg hm, if_neg (by omega)]
    · have ih := get_putF a f r (n / 2) (m.pred / 2) (by omega)
      cases m with
      | zero => rw [get_node_zero, if_neg (show ¬ 0 = n + 1 by omega), get_node_zero]
      | succ m =>
        rw [get_node_succ, get_node_succ]
        rw [Nat.pred_succ] at ih
        by_cases hm : m % 2 = 0
        · rw [if_pos hm, if_pos hm, if_neg (by omega)]
        · rw [if_neg hm, if_neg hm, ih]
          by_cases e : m = n
          · rw [if_pos (by omega), if_pos (by omega)]
          · rw [if_neg (by omega), if_neg (by omega)]
theorem get_put (a : Option α) (t : T α) (n m : Nat) : (t.put a n).get m = if m = n then a else t.get m := get_putF a (n + 1) t n m (by omega)
end T

/-! What the values stand for. -/
variable [Env]

theorem concs_nil (ρ : Nm) : concs ρ [] = some [] := by simp [concs]
theorem concs_cons_iff {ρ : Nm} {x : SV} {xs : List SV} {vs : List Value} : concs ρ (x :: xs) = some vs ↔ ∃ v l, conc ρ x = some v ∧ concs ρ xs = some l ∧ vs = v :: l := by
  simp only [concs]
  cases conc ρ x <;> cases concs ρ xs <;> simp [eq_comm]
theorem concs_cons {ρ : Nm} {x : SV} {xs : List SV} {v : Value} {l : List Value} (h : conc ρ x = some v) (hs : concs ρ xs = some l) : concs ρ (x :: xs) = some (v :: l) :=
  concs_cons_iff.2 ⟨v, l, h, hs, rfl⟩
theorem concs_length {ρ : Nm} : ∀ {l : List SV} {vs : List Value}, concs ρ l = some vs → vs.length = l.length
  | [], vs, h => by simp [concs] at h; subst h; rfl
  | x :: xs, vs, h => by
    obtain ⟨v, l, _, hl, rfl⟩ := concs_cons_iff.1 h
    simp [concs_length hl]
theorem concs_append {ρ : Nm} : ∀ {a b : List SV} {u v : List Value}, concs ρ a = some u → concs ρ b = some v → concs ρ (a ++ b) = some (u ++ v)
  | [], b, u, v, ha, hb => by simp [concs] at ha; subst ha; simpa using hb
  | x :: xs, b, u, v, ha, hb => by
    obtain ⟨y, l, hy, hl, rfl⟩ := concs_cons_iff.1 ha
    exact concs_cons hy (concs_append hl hb)
theorem concs_take {ρ : Nm} : ∀ (n : Nat) {a : List SV} {u : List Value}, concs ρ a = some u → concs ρ (a.take n) = some (u.take n)
  | 0, _, _, _ => by simp [concs]
  | n + 1, [], u, h => by simp [concs] at h; subst h; simp [concs]
  | n + 1, x :: xs, u, h => by
    obtain ⟨y, l, hy, hl, rfl⟩ := concs_cons_iff.1 h
    exact concs_cons hy (concs_take n hl)
theorem concs_drop {ρ : Nm} : ∀ (n : Nat) {a : List SV} {u : List Value}, concs ρ a = some u → concs ρ (a.drop n) = some (u.drop n)
  | 0, _, _, h => by simpa using h
  | n + 1, [], u, h => by simp [concs] at h; subst h; simp [concs]
  | n + 1, x :: xs, u, h => by
    obtain ⟨y, l, hy, hl, rfl⟩ := concs_cons_iff.1 h
    simpa using concs_drop n hl
theorem concs_get {ρ : Nm} : ∀ (n : Nat) {a : List SV} {u : List Value} {x : SV}, concs ρ a = some u → a[n]? = some x → ∃ v, conc ρ x = some v ∧ u[n]? = some v
  | _, [], u, x, _, hx => by simp at hx
  | 0, y :: ys, u, x, h, hx => by
    obtain ⟨v, l, hy, hl, rfl⟩ := concs_cons_iff.1 h
    simp at hx; subst hx
    exact ⟨v, hy, rfl⟩
  | n + 1, y :: ys, u, x, h, hx => by
    obtain ⟨v, l, hy, hl, rfl⟩ := concs_cons_iff.1 h
    simpa using concs_get n hl (by simpa using hx)
theorem concs_lits (ρ : Nm) : ∀ (l : List Value), concs ρ (l.map SV.lit) = some l
  | [] => concs_nil ρ
  | v :: l => concs_cons (by simp [conc]) (concs_lits ρ l)
theorem conc_lit (ρ : Nm) (v : Value) : conc ρ (.lit v) = some v := by simp [conc]
theorem conc_ptr {ρ : Nm} {n off b c : Nat} (h : ρ n = some (b, c)) : conc ρ (.ptr n off) = some (.pointer (some ⟨b, off, none⟩)) := by simp [conc, h]
theorem conc_sl {ρ : Nm} {n off len cap b c : Nat} (h : ρ n = some (b, c)) : conc ρ (.sl n off len cap) = some (.slice (some ⟨b, off, none⟩) len cap) := by simp [conc, h]
theorem conc_vs {ρ : Nm} {n off len k b c : Nat} (h : ρ n = some (b, c)) : conc ρ (.vs n off len k) = some (.slice (some ⟨b, off, none⟩) len (c - k)) := by simp [conc, h]
theorem conc_agg {ρ : Nm} {l : List SV} {vs : List Value} (h : concs ρ l = some vs) : conc ρ (.agg l) = some (.agg vs.toArray) := by simp [conc, h]
theorem conc_tup {ρ : Nm} {l : List SV} {vs : List Value} (h : concs ρ l = some vs) : conc ρ (.tup l) = some (.tuple vs.toArray) := by simp [conc, h]
theorem conc_fn {ρ : Nm} {f : Fn} {l : List SV} {vs : List Value} (h : concs ρ l = some vs) : conc ρ (.fn f l) = some (.func f #[] vs.toArray) := by simp [conc, h]

/-- One naming says all that another one says. -/
def Sub (ρ ρ' : Nm) : Prop := ∀ n p, ρ n = some p → ρ' n = some p
theorem Sub.refl (ρ : Nm) : Sub ρ ρ := fun _ _ h => h
theorem Sub.trans {a b c : Nm} (h : Sub a b) (k : Sub b c) : Sub a c := fun n p x => k n p (h n p x)

theorem map_sub {ρ ρ' : Nm} (h : Sub ρ ρ') {n : Nat} {f : Nat × Nat → Value} {v : Value} (e : (ρ n).map f = some v) : (ρ' n).map f = some v := by
  cases hr : ρ n with
  | none => rw [hr] at e; simp at e
  | some p => rw [hr] at e; rw [h n p hr]; exact e

mutual
theorem conc_mono {ρ ρ' : Nm} (h : Sub ρ ρ') : ∀ (s : SV) (v : Value), conc ρ s = some v → conc ρ' s = some v
  | .lit x, v, e => by simpa [conc] using e
  | .sint k x, v, e => by simpa [conc] using e
  | .sstr x, v, e => by simpa [conc] using e
  | .ptr n off, v, e => by simp only [conc] at e ⊢; exact map_sub h e
  | .sl n off len cap, v, e => by simp only [conc] at e ⊢; exact map_sub h e
  | .vs n off len k, v, e => by simp only [conc] at e ⊢; exact map_sub h e
  | .v0 n off l size k, v, e => by simp only [conc] at e ⊢; exact map_sub h e
  | .mp n, v, e => by simp only [conc] at e ⊢; exact map_sub h e
  | .yl n, v, e => by simp only [conc] at e ⊢; exact map_sub h e
  | .ifc t x, v, e => by
    simp only [conc, Option.map_eq_some_iff] at e ⊢
    obtain ⟨u, h1, h2⟩ := e
    exact ⟨u, conc_mono h x u h1, h2⟩
  | .fn f caps, v, e => by
    simp only [conc, Option.map_eq_some_iff] at e ⊢
    obtain ⟨vs, h1, h2⟩ := e
    exact ⟨vs, concs_mono h caps vs h1, h2⟩
  | .agg l, v, e => by
    simp only [conc, Option.map_eq_some_iff] at e ⊢
    obtain ⟨vs, h1, h2⟩ := e
    exact ⟨vs, concs_mono h l vs h1, h2⟩
  | .tup l, v, e => by
    simp only [conc, Option.map_eq_some_iff] at e ⊢
    obtain ⟨vs, h1, h2⟩ := e
    exact ⟨vs, concs_mono h l vs h1, h2⟩
theorem concs_mono {ρ ρ' : Nm} (h : Sub ρ ρ') : ∀ (s : List SV) (v : List Value), concs ρ s = some v → concs ρ' s = some v
  | [], v, e => by simpa [concs] using e
  | x :: xs, v, e => by
    obtain ⟨y, l, hy, hl, rfl⟩ := concs_cons_iff.1 e
    exact concs_cons (conc_mono h x y hy) (concs_mono h xs l hl)
end

/-- Values without addresses. -/
theorem toValue_conc (ρ : Nm) : ∀ (s : SV) (v : Value), s.toValue? = some v → conc ρ s = some v := by
  intro s
  induction s using SV.rec (motive_2 := fun l => ∀ vs, SV.toValue?.go l = some vs → concs ρ l = some vs) with
  | lit x => intro v h; simpa [SV.toValue?, conc] using h
  | sint => intro v h; simp [SV.toValue?] at h
  | sstr => intro v h; simp [SV.toValue?] at h
  | ptr => intro v h; simp [SV.toValue?] at h
  | sl => intro v h; simp [SV.toValue?] at h
  | vs => intro v h; simp [SV.toValue?] at h
  | v0 => intro v h; simp [SV.toValue?] at h
  | mp => intro v h; simp [SV.toValue?] at h
  | yl => intro v h; simp [SV.toValue?] at h
  | ifc => intro v h; simp [SV.toValue?] at h
  | fn f caps ih =>
    intro v h
    cases caps with
    | nil => simp [SV.toValue?] at h; subst h; simp [conc, concs]
    | cons => simp [SV.toValue?] at h
  | agg l ih =>
    intro v h
    simp only [SV.toValue?, Option.map_eq_some_iff] at h
    obtain ⟨ws, h1, rfl⟩ := h
    exact conc_agg (ih ws h1)
  | tup l ih =>
    intro v h
    simp only [SV.toValue?, Option.map_eq_some_iff] at h
    obtain ⟨ws, h1, rfl⟩ := h
    exact conc_tup (ih ws h1)
  | nil => rename_i h; simp [SV.toValue?.go] at h; subst h; exact concs_nil ρ
  | cons x xs ihx ihs =>
    rename_i vs h
    simp only [SV.toValue?.go] at h
    cases hx : x.toValue? with
    | none => simp [hx] at h
    | some v =>
      cases hl : SV.toValue?.go xs with
      | none => simp [hx, hl] at h
      | some ws =>
        simp [hx, hl] at h; subst h
        exact concs_cons (ihx v hx) (ihs ws hl)
end Go.Proofs.YtdkkblkbonjjgabGreatDoor.Ev

namespace Go.Proofs.YtdkkblkbonjjgabGreatDoor.Ev
open Go
variable [Env]

def Free (fz : Nat × Nat) (n : Nat) : Prop := ∀ i, i < n → ¬ (fz.1 ≤ i ∧ i < fz.2)

/-- What the entries of a map stand for: keys and values. -/
def kvs (ρ : Nm) : List (Value × SV) → Option (List (Value × Value))
  | [] => some []
  | (k, v) :: es => match conc ρ v, kvs ρ es with
    | some u, some l => some ((k, u) :: l)
    | _, _ => none
def kv (e : MapEntry) : Value × Value := (e.key, e.val)

theorem kvs_cons_iff {ρ : Nm} {k : Value} {v : SV} {es : List (Value × SV)} {l : List (Value × Value)} :
    kvs ρ ((k, v) :: es) = some l ↔ ∃ u r, conc ρ v = some u ∧ kvs ρ es = some r ∧ l = (k, u) :: r := by
  simp only [kvs]
  cases conc ρ v <;> cases kvs ρ es <;> simp [eq_comm]

theorem kvs_mono {ρ ρ' : Nm} (h : Sub ρ ρ') : ∀ (es : List (Value × SV)) (l : List (Value × Value)), kvs ρ es = some l → kvs ρ' es = some l
  | [], l, e => by simpa [kvs] using e
  | (k, v) :: es, l, e => by
    obtain ⟨u, r, h1, h2, rfl⟩ := kvs_cons_iff.1 e
    exact kvs_cons_iff.2 ⟨u, r, conc_mono h v u h1, kvs_mono h es r h2, rfl⟩

theorem kvs_append {ρ : Nm} : ∀ {es es' : List (Value × SV)} {l l' : List (Value × Value)}, kvs ρ es = some l → kvs ρ es' = some l' → kvs ρ (es ++ es') = some (l ++ l')
  | [], es', l, l', h, h' => by simp only [kvs, Option.some.injEq] at h; subst h; exact h'
  | (k, v) :: es, es', l, l', h, h' => by
    obtain ⟨u, r, h1, h2, rfl⟩ := kvs_cons_iff.1 h
    exact kvs_cons_iff.2 ⟨u, r ++ l', h1, kvs_append h2 h', rfl⟩

theorem kvs_length {ρ : Nm} : ∀ {es : List (Value × SV)} {l : List (Value × Value)}, kvs ρ es = some l → l.length = es.length
  | [], l, h => by simp only [kvs, Option.some.injEq] at h; subst h; rfl
  | (k, v) :: es, l, h => by
    obtain ⟨u, r, h1, h2, rfl⟩ := kvs_cons_iff.1 h
    simp [kvs_length h2]

/-- The temporaries. -/
def TRel (ρ : Nm) (nt : Nat) (tt : T SV) (tmps : Array Value) : Prop := tmps.size = nt ∧ ∀ i sv, tt.get i = some sv → ∃ v, conc ρ sv = some v ∧ tmps[i]? = some v

theorem TRel.mono {ρ ρ' : Nm} (h : Sub ρ ρ') {nt : Nat} {tt : T SV} {tmps : Array Value} (r : TRel ρ nt tt tmps) : TRel ρ' nt tt tmps :=
  ⟨r.1, fun i sv e => let ⟨v, h1, h2⟩ := r.2 i sv e; ⟨v, conc_mono h sv v h1, h2⟩⟩

/-- A block. -/
def ORel (ρ : Nm) (cap : Nat) : SO → Obj → Prop
  | .cells c e, ob => ∃ vs fz, concs ρ c = some vs ∧ ob = .cells vs.toArray e fz ∧ Free fz vs.length
  | .vec c e sz, ob => ∃ vs rest fz, concs ρ c = some vs ∧ ob = .cells (vs ++ rest).toArray e fz ∧ Free fz (vs.length + rest.length) ∧ vs.length + rest.length = cap * sz
  | .row c e sz, ob => ∃ vs rest fz, concs ρ c = some vs ∧ ob = .cells (vs ++ rest).toArray e fz ∧ (sz = 0 ∨ vs.length + rest.length = cap * sz)
  | .map _ es, ob => ∃ (l : List (Value × Value)) (lst : List MapEntry) (clk : Nat), kvs ρ es = some l ∧ ob = .map lst.toArray clk ∧ (lst.map kv).Perm l
  | .siter s pos, ob => ob = .stringIter s pos
  | .miter .., _ => False
  | .loop st p fn nt tt params assign body d, ob => ∃ tmps db dc, TRel ρ nt tt tmps ∧ ρ d = some (db, dc) ∧
      ob = .loop { state := st, pending := p, fn := fn, tmps := tmps, params := params.toArray, assign := assign, body := body, defers := db }
  | .defd, ob => ob = .deferred (some [])

theorem ORel.mono {ρ ρ' : Nm} (h : Sub ρ ρ') {cap : Nat} {o : SO} {ob : Obj} (r : ORel ρ cap o ob) : ORel ρ' cap o ob := by
  cases o with
  | cells c e => obtain ⟨vs, fz, h1, h2, h3⟩ := r; exact ⟨vs, fz, concs_mono h _ _ h1, h2, h3⟩
  | vec c e sz => obtain ⟨vs, rest, fz, h1, h2, h3, h4⟩ := r; exact ⟨vs, rest, fz, concs_mono h _ _ h1, h2, h3, h4⟩
  | row c e sz => obtain ⟨vs, rest, fz, h1, h2, h3⟩ := r; exact ⟨vs, rest, fz, concs_mono h _ _ h1, h2, h3⟩
  | map kt es => obtain ⟨l, lst, clk, h1, h2, h3⟩ := r; exact ⟨l, lst, clk, kvs_mono h _ _ h1, h2, h3⟩
  | siter s pos => exact r
  | miter => exact r
  | loop st p fn nt tt params assign body d => obtain ⟨tmps, db, dc, h1, h2, h3⟩ := r; exact ⟨tmps, db, dc, h1.mono h, h _ _ h2, h3⟩
  | defd => exact r

/-- The world that the reckoner's heap tells of. -/
structure Rel (cx : Cx) (B : Nat) (ρ : Nm) (w : World) (s : St) : Prop where
  obj : ∀ n o, s.see n = some o → ∃ b c ob, ρ n = some (b, c) ∧ B ≤ b ∧ w.heap[b]? = some ob ∧ ORel ρ c o ob
  inj : ∀ n m o o' b c c', s.see n = some o → s.see m = some o' → ρ n = some (b, c) → ρ m = some (b, c') → n = m
  bound : ∀ n o, s.heap.get n = some o → n < s.next
  old : ∀ b i v, cx.old b i = some v → b < B ∧ w.cell? ⟨b, i, none⟩ = some v
  size : B ≤ w.heap.size

theorem raw_of_see {s : St} {n : Nat} {o : SO} (h : s.see n = some o) : s.heap.get n = some o := by
  unfold St.see at h
  split at h
  · cases h
  · exact h
theorem Rel.bd {cx : Cx} {B : Nat} {ρ : Nm} {w : World} {s : St} (hR : Rel cx B ρ w s) (n : Nat) (o : SO) (h : s.see n = some o) : n < s.next := hR.bound n o (raw_of_see h)

/-- What a step may do. -/
structure Ext (s s' : St) (ρ ρ' : Nm) (w w' : World) : Prop where
  le : s.next ≤ s'.next
  sub : Sub ρ ρ'
  dom : ∀ n, ρ n = none → ρ' n ≠ none → s.next ≤ n ∧ n < s'.next
  newb : ∀ n b c, ρ n = none → ρ' n = some (b, c) → w.heap.size ≤ b ∨ ∃ m o c', s.see m = some o ∧ ρ m = some (b, c')
  frame : ∀ b, b < w.heap.size → (∀ n o c, s.see n = some o → ρ n ≠ some (b, c)) → w'.heap[b]? = w.heap[b]?
  size : w.heap.size ≤ w'.heap.size
  tape : w'.tape = w.tape
  os : w'.os = w.os
  output : w'.output = w.output
  hid : s'.hid = s.hid
  seen : ∀ n o, s'.see n = some o → ρ n ≠ none → ∃ o', s.see n = some o'
  wr : ∀ n, n ∈ s.wr → n ∈ s'.wr
  keepw : ∀ n, n ∉ s'.wr → n < s.next → s'.see n = s.see n ∧ ∀ o b c, s.see n = some o → ρ n = some (b, c) → w'.heap[b]? = w.heap[b]?

theorem Ext.refl (s : St) (ρ : Nm) (w : World) : Ext s s ρ ρ w w where
  le := Nat.le_refl _
  sub := Sub.refl _
  dom := fun n h h' => absurd h h'
  newb := fun n b c h h' => by rw [h] at h'; cases h'
  frame := fun _ _ _ => rfl
  size := Nat.le_refl _
  tape := rfl
  os := rfl
  output := rfl
  hid := rfl
  seen := fun n o h _ => ⟨o, h⟩
  wr := fun _ h => h
  keepw := fun _ _ _ => ⟨rfl, fun _ _ _ _ _ => rfl⟩

/-- The names that a step from one count to another may give are free. -/
def Fresh (ρ : Nm) (a b : Nat) : Prop := ∀ n, a ≤ n → n < b → ρ n = none

theorem heap_lt {w : World} {b : Nat} {ob : Obj} (h : w.heap[b]? = some ob) : b < w.heap.size := (Array.getElem?_eq_some_iff.1 h).1

theorem Ext.trans {s s1 s2 : St} {ρ ρ1 ρ2 : Nm} {w w1 w2 : World} (h : Ext s s1 ρ ρ1 w w1) (k : Ext s1 s2 ρ1 ρ2 w1 w2) : Ext s s2 ρ ρ2 w w2 := by
  have back : ∀ m o b c, s1.see m = some o → ρ1 m = some (b, c) → w.heap.size ≤ b ∨ ∃ m' o' c', s.see m' = some o' ∧ ρ m' = some (b, c') := by
    intro m o b c hm hb
    cases hr : ρ m with
    | none => exact h.newb m b c hr hb
    | some p =>
      have hp := h.sub m p hr
      rw [hb] at hp
      cases hp
      obtain ⟨o', ho'⟩ := h.seen m o hm (by simp [hr])
      exact .inr ⟨m, o', c, ho', hr⟩
  refine ⟨Nat.le_trans h.le k.le, h.sub.trans k.sub, ?_, ?_, ?_, Nat.le_trans h.size k.size, k.tape.trans h.tape, k.os.trans h.os, k.output.trans h.output, k.hid.trans h.hid, ?_, fun n hn => k.wr n (h.wr n hn), ?_⟩
  · intro n h0 h2
    cases h1 : ρ1 n with
    | none =>
      have := k.dom n h1 h2
      have := h.le
      omega
    | some p =>
      have := h.dom n h0 (by simp [h1])
      have := k.le
      omega
  · intro n b c h0 h2
    cases h1 : ρ1 n with
    | none =>
      rcases k.newb n b c h1 h2 with h3 | ⟨m, o, c', hm, hb⟩
      · exact .inl (Nat.le_trans h.size h3)
      · exact back m o b c' hm hb
    | some p =>
      have hp := k.sub n p h1
      rw [h2] at hp
      cases hp
      exact h.newb n b c h0 h1
  · intro b hlt hno
    rw [k.frame b (Nat.lt_of_lt_of_le hlt h.size) ?_, h.frame b hlt hno]
    intro n o c hn hb
    rcases back n o b c hn hb with h3 | ⟨m, o', c', hm, hb'⟩
    · omega
    · exact hno m o' c' hm hb'
  · intro n o h2 h0
    have h1 : ρ1 n ≠ none := by
      cases hr : ρ n with
      | none => exact absurd hr h0
      | some p => rw [h.sub n p hr]; simp
    obtain ⟨o1, ho1⟩ := k.seen n o h2 h1
    exact h.seen n o1 ho1 h0
  · intro n hn hlt
    have := h.le
    obtain ⟨e1, f1⟩ := h.keepw n (fun hh => hn (k.wr n hh)) hlt
    obtain ⟨e2, f2⟩ := k.keepw n hn (by omega)
    refine ⟨e2.trans e1, fun o b c ho hb => ?_⟩
    rw [f2 o b c (by rw [e1]; exact ho) (h.sub n _ hb), f1 o b c ho hb]

theorem Fresh.sub {ρ : Nm} {a b c d : Nat} (h : Fresh ρ a b) (h1 : a ≤ c) (h2 : d ≤ b) : Fresh ρ c d := fun n x y => h n (by omega) (by omega)

/-- What is free for a second step is free behind the first. -/
theorem Fresh.step {s s1 : St} {ρ ρ1 : Nm} {w w1 : World} (h : Ext s s1 ρ ρ1 w w1) {z : Nat} (hf : Fresh ρ s.next z) : Fresh ρ1 s1.next z := by
  intro n h1 h2
  have := h.le
  cases hr : ρ1 n with
  | none => rfl
  | some p =>
    have := h.dom n (hf n (by omega) h2) (by simp [hr])
    omega

/-- A block is changed, nothing else. -/
structure Upd (w w' : World) (b : Nat) (ob : Obj) : Prop where
  size : w'.heap.size = w.heap.size
  at_ : w'.heap[b]? = some ob
  else_ : ∀ k, k ≠ b → w'.heap[k]? = w.heap[k]?
  tape : w'.tape = w.tape
  os : w'.os = w.os
  output : w'.output = w.output

/-- A block is laid, nothing else. -/
structure Psh (w w' : World) (ob : Obj) : Prop where
  size : w'.heap.size = w.heap.size + 1
  at_ : w'.heap[w.heap.size]? = some ob
  else_ : ∀ k, k < w.heap.size → w'.heap[k]? = w.heap[k]?
  tape : w'.tape = w.tape
  os : w'.os = w.os
  output : w'.output = w.output

theorem Psh.mk' {w : World} {ob : Obj} {d : Nat} : Psh w { w with heap := w.heap.push ob, drawn := d } ob where
  size := by simp
  at_ := by simp
  else_ := fun k hk => by simp [Array.getElem?_push, show ¬ k = w.heap.size by omega]
  tape := rfl
  os := rfl
  output := rfl

theorem Upd.mk' {w : World} {b : Nat} {ob : Obj} (hb : b < w.heap.size) {d : Nat} : Upd w { w with heap := w.heap.setIfInBounds b ob, drawn := d } b ob where
  size := by simp
  at_ := by simp [hb]
  else_ := fun k hk => by simp [Ne.symm hk]
  tape := rfl
  os := rfl
  output := rfl

theorem cell_of_heap {w w' : World} {a : Addr} (h : w'.heap[a.block]? = w.heap[a.block]?) : w'.cell? a = w.cell? a := by
  unfold World.cell?; rw [h]

theorem see_new (s : St) (o : SO) (n : Nat) : (s.new o).see n = if n = s.next then (match hidden s.hid n with | true => none | false => some o) else s.see n := by
  simp only [St.see, St.new, T.get_put]
  split <;> split <;> simp_all
theorem see_set (s : St) (m : Nat) (o : SO) (n : Nat) : (s.set m o).see n = if n = m then (match hidden s.hid n with | true => none | false => some o) else s.see n := by
  simp only [St.see, St.set, T.get_put]
  split <;> split <;> simp_all
theorem see_kill (s : St) (m n : Nat) : (s.kill m).see n = if n = m then none else s.see n := by
  simp only [St.see, St.kill, T.get_put]
  split <;> split <;> simp_all

def Nm.put (ρ : Nm) (n : Nat) (p : Nat × Nat) : Nm := fun m => if m = n then some p else ρ m
theorem Nm.put_sub {ρ : Nm} {n : Nat} {p : Nat × Nat} (h : ρ n = none) : Sub ρ (ρ.put n p) := fun m q e => by
  unfold Nm.put
  split
  · rename_i hm; subst hm; rw [h] at e; cases e
  · exact e
theorem Nm.put_at (ρ : Nm) (n : Nat) (p : Nat × Nat) : (ρ.put n p) n = some p := by simp [Nm.put]
theorem Nm.put_ne (ρ : Nm) {n m : Nat} (p : Nat × Nat) (h : m ≠ n) : (ρ.put n p) m = ρ m := by simp [Nm.put, h]

theorem new_ok {cx : Cx} {B : Nat} {ρ : Nm} {w w' : World} {s : St} (hR : Rel cx B ρ w s) (hf : ρ s.next = none) {ob : Obj} (hp : Psh w w' ob) (o : SO) (cap : Nat)
    (ho : ORel (ρ.put s.next (w.heap.size, cap)) cap o ob) :
    Rel cx B (ρ.put s.next (w.heap.size, cap)) w' (s.new o) ∧ Ext s (s.new o) ρ (ρ.put s.next (w.heap.size, cap)) w w' := by
  have hsub := Nm.put_sub (p := (w.heap.size, cap)) hf
  have hne : ∀ n o', s.see n = some o' → n ≠ s.next := fun n o' h => Nat.ne_of_lt (hR.bd n o' h)
  refine ⟨⟨?_, ?_, ?_, ?_, by rw [hp.size]; exact Nat.le_succ_of_le hR.size⟩, ⟨Nat.le_succ _, hsub, ?_, ?_, ?_, by rw [hp.size]; omega, hp.tape, hp.os, hp.output, rfl, ?_, fun _ h => h, ?_⟩⟩
  · intro n o' h
    rw [see_new] at h
    split at h
    · rename_i hn
      split at h
      · cases h
      · cases h; subst hn; exact ⟨_, _, ob, Nm.put_at _ _ _, hR.size, hp.at_, ho⟩
    · obtain ⟨b, c, ob', h1, h2, h3, h4⟩ := hR.obj n o' h
      exact ⟨b, c, ob', hsub _ _ h1, h2, by rw [hp.else_ b (heap_lt h3)]; exact h3, h4.mono hsub⟩
  · intro n m o1 o2 b c c' h1 h2 h3 h4
    rw [see_new] at h1 h2
    have lt : ∀ n o', s.see n = some o' → ∀ b c, (ρ.put s.next (w.heap.size, cap)) n = some (b, c) → b < w.heap.size := by
      intro n o' h b c hb
      rw [Nm.put_ne _ _ (hne n o' h)] at hb
      obtain ⟨b', c', ob', e1, _, e3, _⟩ := hR.obj n o' h
      rw [hb] at e1; cases e1
      exact heap_lt e3
    by_cases en : n = s.next <;> by_cases em : m = s.next
    · omega
    · rw [if_neg em] at h2
      have := lt m o2 h2 b c' h4
      rw [en, Nm.put_at] at h3; cases h3; omega
    · rw [if_neg en] at h1
      have := lt n o1 h1 b c h3
      rw [em, Nm.put_at] at h4; cases h4; omega
    · rw [if_neg en] at h1; rw [if_neg em] at h2
      rw [Nm.put_ne _ _ en] at h3; rw [Nm.put_ne _ _ em] at h4
      exact hR.inj n m o1 o2 b c c' h1 h2 h3 h4
  · intro n o' h
    simp only [St.new, T.get_put] at h
    show n < s.next + 1
    split at h
    · omega
    · have := hR.bound n o' h; omega
  · intro b i v h
    obtain ⟨h1, h2⟩ := hR.old b i v h
    exact ⟨h1, by rw [cell_of_heap (w := w) (hp.else_ b (Nat.lt_of_lt_of_le h1 hR.size))]; exact h2⟩
  · intro n h0 h1
    by_cases e : n = s.next
    · show s.next ≤ n ∧ n < s.next + 1
      omega
    · rw [Nm.put_ne _ _ e] at h1; exact absurd h0 h1
  · intro n b c h0 h1
    by_cases e : n = s.next
    · rw [e, Nm.put_at] at h1; cases h1; exact .inl (Nat.le_refl _)
    · rw [Nm.put_ne _ _ e, h0] at h1; cases h1
  · intro b hb _
    exact hp.else_ b hb
  · intro n o' h h0
    rw [see_new] at h
    split at h
    · rename_i e; rw [e] at h0; exact absurd hf h0
    · exact ⟨o', h⟩
  · intro n _ hn
    refine ⟨by rw [see_new, if_neg (by omega)], fun o' b c h hb => hp.else_ b ?_⟩
    obtain ⟨b', c', ob', e1, _, e3, _⟩ := hR.obj n o' h
    rw [hb] at e1; cases e1
    exact heap_lt e3

theorem set_ok {cx : Cx} {B : Nat} {ρ : Nm} {w w' : World} {s : St} (hR : Rel cx B ρ w s) {n : Nat} {o0 : SO} (hn : s.see n = some o0) {b c : Nat} (hb : ρ n = some (b, c)) {ob : Obj}
    (hp : Upd w w' b ob) (o : SO) (ho : ORel ρ c o ob) : Rel cx B ρ w' (s.set n o) ∧ Ext s (s.set n o) ρ ρ w w' := by
  obtain ⟨b0, c0, ob0, hb0, hB, hh, _⟩ := hR.obj n o0 hn
  rw [hb] at hb0; cases hb0
  have other : ∀ m o' b' c', s.see m = some o' → ρ m = some (b', c') → m ≠ n → b' ≠ b := fun m o' b' c' h1 h2 h3 e => h3 (hR.inj m n o' o0 b' c' c h1 hn h2 (by rw [e]; exact hb))
  refine ⟨⟨?_, ?_, ?_, ?_, by rw [hp.size]; exact hR.size⟩, ⟨Nat.le_refl _, Sub.refl _, fun n h h' => absurd h h', (fun n b c h h' => by rw [h] at h'; cases h'), ?_, (by rw [hp.size]; exact Nat.le_refl _), hp.tape, hp.os, hp.output, rfl, ?_, fun _ h => List.mem_cons_of_mem _ h, ?_⟩⟩
  · intro m o' h
    rw [see_set] at h
    split at h
    · rename_i hm
      split at h
      · cases h
      · cases h; subst hm; exact ⟨b, c, ob, hb, hB, hp.at_, ho⟩
    · rename_i hm
      obtain ⟨b', c', ob', h1, h2, h3, h4⟩ := hR.obj m o' h
      exact ⟨b', c', ob', h1, h2, by rw [hp.else_ b' (other m o' b' c' h h1 hm)]; exact h3, h4⟩
  · intro m1 m2 o1 o2 b' c1 c2 h1 h2 h3 h4
    have v : ∀ m o', (s.set n o).see m = some o' → ∃ o'', s.see m = some o'' := by
      intro m o' h
      rw [see_set] at h
      split at h
      · rename_i e; rw [e]; exact ⟨o0, hn⟩
      · exact ⟨o', h⟩
    obtain ⟨x1, hx1⟩ := v m1 o1 h1
    obtain ⟨x2, hx2⟩ := v m2 o2 h2
    exact hR.inj m1 m2 x1 x2 b' c1 c2 hx1 hx2 h3 h4
  · intro m o' h
    simp only [St.set, T.get_put] at h
    show m < s.next
    split at h
    · rename_i e; rw [e]; exact hR.bd n o0 hn
    · exact hR.bound m o' h
  · intro b' i v h
    obtain ⟨h1, h2⟩ := hR.old b' i v h
    exact ⟨h1, by rw [cell_of_heap (w := w) (hp.else_ b' (by omega))]; exact h2⟩
  · intro b' _ hno
    exact hp.else_ b' (fun e => hno n o0 c hn (by rw [e]; exact hb))
  · intro m o' h _
    rw [see_set] at h
    split at h
    · rename_i e; rw [e]; exact ⟨o0, hn⟩
    · exact ⟨o', h⟩
  · intro m hm _
    have : m ≠ n := fun e => hm (by rw [e]; exact List.mem_cons_self ..)
    refine ⟨by rw [see_set, if_neg this], fun o' b' c' h hb' => hp.else_ b' (other m o' b' c' h hb' this)⟩

/-- A draw alone. -/
theorem Rel.drawn {cx : Cx} {B : Nat} {ρ : Nm} {w : World} {s : St} (hR : Rel cx B ρ w s) (d : Nat) : Rel cx B ρ { w with drawn := d } s :=
  ⟨hR.obj, hR.inj, hR.bound, hR.old, hR.size⟩
theorem Ext.drawn {s s' : St} {ρ ρ' : Nm} {w w' : World} {d : Nat} (h : Ext s s' ρ ρ' { w with drawn := d } w') : Ext s s' ρ ρ' w w' :=
  ⟨h.le, h.sub, h.dom, h.newb, h.frame, h.size, h.tape, h.os, h.output, h.hid, h.seen, h.wr, h.keepw⟩
end Go.Proofs.YtdkkblkbonjjgabGreatDoor.Ev

namespace Go.Proofs.YtdkkblkbonjjgabGreatDoor.Ev
open Go
variable [Env]

theorem pureRun_ok {α : Type} (P : Program) : ∀ (m : Sem α) (a : α), pureRun P m = some a → ∀ w, m.run P w = .ok a w := by
  intro m
  induction m with
  | pure x => intro a h w; simp only [pureRun, Option.some.injEq] at h; subst h; rfl
  | program k ih => intro a h w; exact ih P a h w
  | mark x k ih => intro a h w; exact ih a h w
  | _ => intro a h w; simp [pureRun] at h

/-- What an operation comes to. -/
def Done (cx : Cx) (B : Nat) (m : Sem Next) (ρ : Nm) (w : World) (s s' : St) (v : SV) : Prop :=
  ∃ ρ' w' cv, (m.run cx.P w = .ok (.value cv) w' ∨ (m.run cx.P w = .ok .skip w' ∧ cv = undef)) ∧ conc ρ' v = some cv ∧ Rel cx B ρ' w' s' ∧ Ext s s' ρ ρ' w w'

theorem Done.same {cx : Cx} {B : Nat} {m : Sem Next} {ρ : Nm} {w : World} {s : St} {v : SV} {cv : Value} (hR : Rel cx B ρ w s) (h : m.run cx.P w = .ok (.value cv) w) (hv : conc ρ v = some cv) :
    Done cx B m ρ w s s v := ⟨ρ, w, cv, .inl h, hv, hR, Ext.refl _ _ _⟩

theorem Done.pure {cx : Cx} {B : Nat} {m : Sem Value} {ρ : Nm} {w : World} {s : St} {cv : Value} (hR : Rel cx B ρ w s) (h : pureRun cx.P m = some cv) :
    Done cx B (do Pure.pure (.value (← m))) ρ w s s (.lit cv) :=
  Done.same hR (by rw [Sem.run_bind, pureRun_ok cx.P m cv h w]; rfl) (conc_lit _ _)

theorem cells_conc {ρ : Nm} {v : SV} {cv : Value} (h : conc ρ v = some cv) : concs ρ v.cells = some cv.cells.toList := by
  cases v with
  | lit _ =>
    rw [conc_lit] at h; cases h
    cases cv <;> first
      | (show concs ρ [SV.lit _] = some [_]; exact concs_cons (conc_lit _ _) (concs_nil _))
      | (show concs ρ (List.map SV.lit _) = some _; exact concs_lits _ _)
  | sint k x =>
    have h' := h
    simp only [conc, Option.some.injEq] at h'
    subst h'
    exact concs_cons h (concs_nil _)
  | sstr x =>
    have h' := h
    simp only [conc, Option.some.injEq] at h'
    subst h'
    exact concs_cons h (concs_nil _)
  | agg l =>
    simp only [conc, Option.map_eq_some_iff] at h
    obtain ⟨vs, h1, rfl⟩ := h
    exact h1
  | tup l =>
    have h' := h
    simp only [conc, Option.map_eq_some_iff] at h'
    obtain ⟨vs, h1, rfl⟩ := h'
    exact concs_cons h (concs_nil _)
  | fn f l =>
    have h' := h
    simp only [conc, Option.map_eq_some_iff] at h'
    obtain ⟨vs, h1, rfl⟩ := h'
    exact concs_cons h (concs_nil _)
  | _ =>
    have h' := h
    simp only [conc, Option.map_eq_some_iff] at h'
    obtain ⟨p, h1, rfl⟩ := h'
    exact concs_cons h (concs_nil _)

theorem cells_size {ρ : Nm} {v : SV} {cv : Value} (h : conc ρ v = some cv) : cv.cells.size = v.cells.length := by
  have := concs_length (cells_conc h)
  simpa using this

theorem zeroCells_ok {P : Program} {t : TypeId} {l : List SV} (h : zeroCells? P t = some l) : ∃ z, (∀ w, (zeroValue t).run P w = .ok z w) ∧ (∀ ρ, concs ρ l = some z.cells.toList) := by
  unfold zeroCells? at h
  split at h
  · rename_i i hi
    split at h
    · rename_i v hv
      cases h
      refine ⟨v, fun w => ?_, fun ρ => concs_lits ρ _⟩
      simp [zeroValue, typeInfo, hi, hv]
    · cases h
  · cases h

theorem size_ok {P : Program} {t : TypeId} {n : Nat} (h : size? P t = some n) (w : World) : (sizeOf t).run P w = .ok n w := by
  unfold size? at h
  split at h
  · rename_i i hi
    cases h
    simp [sizeOf, typeInfo, hi]
  · cases h

theorem underlying_ok {P : Program} {t : TypeId} {d : TypeDesc} (h : P.underlying t = some d) (w : World) : (underlying t).run P w = .ok d w := by
  simp [underlying, h]

theorem isAgg_ok {P : Program} {t : TypeId} {b : Bool} (h : isAgg? P t = some b) (w : World) : (isAgg t).run P w = .ok b w := by
  unfold isAgg? at h
  split at h
  · rename_i hd; cases h; simp [isAgg, underlying_ok hd]
  · rename_i hd; cases h; simp [isAgg, underlying_ok hd]
  · rename_i d h1 h2 hd
    cases h
    simp only [isAgg, Sem.run_bind, underlying_ok hd, Result.andThen_ok]
    cases d <;> first | rfl | exact absurd rfl (h1 _) | exact absurd rfl (h2 _ _)
  · cases h

/-- The cells of a block that is seen. -/
theorem cellsAt_ok {cx : Cx} {B : Nat} {ρ : Nm} {w : World} {s : St} (hR : Rel cx B ρ w s) {n : Nat} {c : List SV} (h : s.cellsAt n = some c) :
    ∃ b cap vs rest e fz, ρ n = some (b, cap) ∧ B ≤ b ∧ concs ρ c = some vs ∧ w.heap[b]? = some (.cells (vs ++ rest).toArray e fz) := by
  unfold St.cellsAt at h
  split at h
  · rename_i c' e hs
    cases h
    obtain ⟨b, cap, ob, h1, h2, h3, vs, fz, h4, rfl, h6⟩ := hR.obj n _ hs
    exact ⟨b, cap, vs, [], e, fz, h1, h2, h4, by simpa using h3⟩
  · rename_i c' e sz hs
    cases h
    obtain ⟨b, cap, ob, h1, h2, h3, vs, rest, fz, h4, rfl, h6, h7⟩ := hR.obj n _ hs
    exact ⟨b, cap, vs, rest, e, fz, h1, h2, h4, h3⟩
  · rename_i c' e sz hs
    cases h
    obtain ⟨b, cap, ob, h1, h2, h3, vs, rest, fz, h4, rfl, h6⟩ := hR.obj n _ hs
    exact ⟨b, cap, vs, rest, e, fz, h1, h2, h4, h3⟩
  · cases h

theorem cell_at {w : World} {b off : Nat} {l : List Value} {e : TypeId} {fz : Nat × Nat} (h : w.heap[b]? = some (.cells l.toArray e fz)) : w.cell? ⟨b, off, none⟩ = l[off]? := by
  simp [World.cell?, h]

theorem addr_add (b off j : Nat) : (Addr.mk b off none).add j = ⟨b, off + j, none⟩ := by
  unfold Addr.add
  split
  · rename_i h; subst h; rfl
  · rfl

theorem ble_le {a b : Nat} (h : Nat.ble a b = true) : a ≤ b := Nat.le_of_ble_eq_true h
theorem blt_lt {a b : Nat} (h : Nat.blt a b = true) : a < b := Nat.le_of_ble_eq_true h
theorem beq_eq {a b : Nat} (h : Nat.beq a b = true) : a = b := Nat.eq_of_beq_eq_true h

theorem range_ok {ρ : Nm} {c l : List SV} {vs : List Value} {off n : Nat} (h : range? c off n = some l) (hc : concs ρ c = some vs) :
    concs ρ l = some ((vs.drop off).take n) ∧ off + n ≤ vs.length := by
  unfold range? at h
  split at h
  · rename_i hb
    cases h
    exact ⟨concs_take n (concs_drop off hc), by rw [concs_length hc]; exact ble_le hb⟩
  · cases h

theorem oldCells_ok {cx : Cx} {B : Nat} {ρ : Nm} {w : World} {s : St} (hR : Rel cx B ρ w s) (b : Nat) : ∀ (n off : Nat) (l : List SV), oldCells cx.old b off n = some l →
    ∃ vs, concs ρ l = some vs ∧ vs.length = n ∧ ∀ j v, vs[j]? = some v → w.cell? ⟨b, off + j, none⟩ = some v
  | 0, off, l, h => by simp [oldCells] at h; subst h; exact ⟨[], concs_nil _, rfl, fun j v e => by simp at e⟩
  | n + 1, off, l, h => by
    simp only [oldCells] at h
    split at h
    · rename_i v l' hv hl
      cases h
      obtain ⟨vs, h1, h2, h3⟩ := oldCells_ok hR b n _ l' hl
      refine ⟨v :: vs, concs_cons (conc_lit _ _) h1, by simp [h2], fun j u e => ?_⟩
      cases j with
      | zero => simp at e; subst e; exact (hR.old b off v hv).2
      | succ j =>
        have := h3 j u (by simpa using e)
        rw [show off + (j + 1) = Nat.add off 1 + j by show _ = off + 1 + j; omega]
        exact this
    · cases h

theorem loadFrom_ok {cx : Cx} {B : Nat} {ρ : Nm} {w : World} {s : St} (hR : Rel cx B ρ w s) {a : SV} {n : Nat} {l : List SV} (h : loadFrom cx s a n = some l) :
    ∃ b off vs, conc ρ a = some (.pointer (some ⟨b, off, none⟩)) ∧ concs ρ l = some vs ∧ vs.length = n ∧ ∀ j v, vs[j]? = some v → w.cell? ⟨b, off + j, none⟩ = some v := by
  unfold loadFrom at h
  split at h
  · rename_i nm off
    split at h
    · rename_i c hc
      obtain ⟨b, cap, vs, rest, e, fz, h1, h2, h3, h4⟩ := cellsAt_ok hR hc
      obtain ⟨h6, h7⟩ := range_ok h h3
      refine ⟨b, off, _, conc_ptr h1, h6, by simp; omega, fun j v hj => ?_⟩
      rw [cell_at h4]
      have hlt : j < n := by
        have := (List.getElem?_eq_some_iff.1 hj).1
        simp at this; omega
      rw [List.getElem?_take, if_pos hlt, List.getElem?_drop] at hj
      rw [List.getElem?_append_left (by omega)]
      exact hj
    · cases h
  · rename_i b off
    obtain ⟨vs, h1, h2, h3⟩ := oldCells_ok hR b n off l h
    exact ⟨b, off, vs, conc_lit _ _, h1, h2, h3⟩
  · cases h

theorem run_cells {P : Program} {w : World} {b off : Nat} {vs : List Value} (h : ∀ j v, vs[j]? = some v → w.cell? ⟨b, off + j, none⟩ = some v) :
    (loadCells ⟨b, off, none⟩ vs.length).run P w = .ok vs.toArray w :=
  run_loadCells_list (P := P) (w := w) ⟨b, off, none⟩ vs (fun j v hj => by rw [addr_add]; exact h j v hj)

theorem load_ok {cx : Cx} {B : Nat} {ρ : Nm} {w : World} {s : St} (hR : Rel cx B ρ w s) {t : TypeId} {a v : SV} (h : load cx s t a = some v) :
    ∃ b off cv, conc ρ a = some (.pointer (some ⟨b, off, none⟩)) ∧ conc ρ v = some cv ∧ (loadVar t ⟨b, off, none⟩).run cx.P w = .ok cv w := by
  unfold load at h
  split at h
  · rename_i ha
    split at h
    · rename_i n hn
      split at h
      · rename_i l hl
        cases h
        obtain ⟨b, off, vs, h1, h2, rfl, h4⟩ := loadFrom_ok hR hl
        refine ⟨b, off, _, h1, conc_agg h2, ?_⟩
        simp [loadVar, isAgg_ok ha, size_ok hn, run_cells h4]
      · cases h
    · cases h
  · rename_i ha
    split at h
    · rename_i v' hl
      cases h
      obtain ⟨b, off, vs, h1, h2, h3, h4⟩ := loadFrom_ok hR hl
      obtain ⟨u, l, hu, hl', rfl⟩ := concs_cons_iff.1 h2
      refine ⟨b, off, u, h1, hu, ?_⟩
      have := h4 0 u rfl
      simp only [loadVar, Sem.run_bind, isAgg_ok ha, Result.andThen_ok, Bool.false_eq_true, if_false, run_load]
      rw [show off + 0 = off from rfl] at this
      rw [this]
    · cases h
  · cases h

theorem isCell_ok {ρ : Nm} {x : SV} {v : Value} (h : conc ρ x = some v) (hc : x.isCell = true) : v.oneCell' = true := by
  cases x with
  | sint k e => simp only [conc, Option.some.injEq] at h; subst h; rfl
  | sstr e => simp only [conc, Option.some.injEq] at h; subst h; rfl
  | lit _ => rw [conc_lit] at h; cases h; cases v <;> first | rfl | (simp [SV.isCell] at hc)
  | agg => simp [SV.isCell] at hc
  | tup => simp [SV.isCell] at hc
  | fn =>
    simp only [conc, Option.map_eq_some_iff] at h
    obtain ⟨p, _, rfl⟩ := h
    rfl
  | _ =>
    simp only [conc, Option.map_eq_some_iff] at h
    obtain ⟨p, _, rfl⟩ := h
    rfl

theorem isCells_ok {ρ : Nm} : ∀ {l : List SV} {vs : List Value}, concs ρ l = some vs → l.all SV.isCell = true → ∀ v ∈ vs, v.oneCell' = true
  | [], vs, h, _ => by simp [concs] at h; subst h; simp
  | x :: xs, vs, h, ha => by
    obtain ⟨v, l, h1, h2, rfl⟩ := concs_cons_iff.1 h
    simp only [List.all_cons, Bool.and_eq_true] at ha
    intro u hu
    rcases List.mem_cons.1 hu with rfl | hu
    · exact isCell_ok h1 ha.1
    · exact isCells_ok h2 ha.2 u hu

theorem Upd.trans {w w1 w2 : World} {b : Nat} {o1 o2 : Obj} (h : Upd w w1 b o1) (k : Upd w1 w2 b o2) : Upd w w2 b o2 where
  size := k.size.trans h.size
  at_ := k.at_
  else_ := fun n hn => (k.else_ n hn).trans (h.else_ n hn)
  tape := k.tape.trans h.tape
  os := k.os.trans h.os
  output := k.output.trans h.output

theorem setCell_upd {w : World} {b off : Nat} {l : List Value} {e : TypeId} {fz : Nat × Nat} (h : w.heap[b]? = some (.cells l.toArray e fz)) (v : Value) :
    Upd w (w.setCell ⟨b, off, none⟩ v) b (.cells (l.set off v).toArray e fz) where
  size := by simp [World.setCell]
  at_ := by simp [World.setCell, Array.getElem?_modify, h]
  else_ := fun k hk => by simp [World.setCell, Array.getElem?_modify, Ne.symm hk]
  tape := rfl
  os := rfl
  output := rfl

theorem set_splice (l : List Value) (k : Nat) (v : Value) (vs : List Value) (h : k < l.length) :
    (l.set k v).take (k + 1) ++ (vs ++ (l.set k v).drop (k + (vs.length + 1))) = l.take k ++ (v :: vs ++ l.drop (k + (vs.length + 1))) := by
  have h1 : (l.set k v).take (k + 1) = l.take k ++ [v] := by
    rw [List.take_succ_eq_append_getElem (by simpa using h), List.take_set_of_le (Nat.le_refl k)]
    simp
  have h2 : (l.set k v).drop (k + (vs.length + 1)) = l.drop (k + (vs.length + 1)) := List.drop_set_of_lt (by omega)
  rw [h1, h2]
  simp

theorem fold_splice' (off : Nat) : ∀ (vs : List Value) (i : Nat) (l : List Value), off + i + vs.length ≤ l.length →
    (vs.zipIdx i).foldl (fun (cs : Array Value) (p : Value × Nat) => cs.setIfInBounds (off + p.2) p.1) l.toArray = (l.take (off + i) ++ (vs ++ l.drop (off + i + vs.length))).toArray
  | [], i, l, _ => by simp
  | v :: vs, i, l, h => by
    simp only [List.length_cons] at h
    simp only [List.zipIdx_cons, List.foldl_cons, List.setIfInBounds_toArray]
    rw [fold_splice' off vs (i + 1) (l.set (off + i) v) (by simp; omega)]
    congr 1
    rw [show off + (i + 1) = off + i + 1 by omega, show off + i + 1 + vs.length = off + i + (vs.length + 1) by omega]
    exact set_splice l (off + i) v vs (by omega)

theorem fold_splice (a : Array Value) (l : List Value) (off : Nat) (h : off + a.size ≤ l.length) :
    a.zipIdx.foldl (fun cs (p : Value × Nat) => cs.setIfInBounds (off + p.2) p.1) l.toArray = (l.take off ++ (a.toList ++ l.drop (off + a.toList.length))).toArray := by
  rw [← Array.foldl_toList, Array.toList_zipIdx]
  have := fold_splice' off a.toList 0 l (by simpa using h)
  simpa using this

/-- A row of cells is stored. -/
theorem run_storeCells (P : Program) {b off : Nat} {e : TypeId} {fz : Nat × Nat} : ∀ (vs : List Value) (i : Nat) (w : World) (l : List Value), w.heap[b]? = some (.cells l.toArray e fz) → Free fz l.length →
    (∀ v ∈ vs, v.oneCell' = true) → off + i + vs.length ≤ l.length →
    ∃ w', (storeCells ⟨b, off, none⟩ vs i).run P w = .ok () w' ∧ Upd w w' b (.cells (l.take (off + i) ++ (vs ++ l.drop (off + i + vs.length))).toArray e fz)
  | [], i, w, l, h, _, _, _ => ⟨w, by simp [storeCells], ⟨rfl, by rw [h]; simp, fun _ _ => rfl, rfl, rfl, rfl⟩⟩
  | v :: vs, i, w, l, h, hf, hc, hl => by
    simp only [List.length_cons] at hl
    have hcell : w.cell? ⟨b, off + i, none⟩ = l[off + i]? := cell_at h
    rw [List.getElem?_eq_getElem (by omega)] at hcell
    have hfr : w.frozen? ⟨b, off + i, none⟩ = false := by
      simp only [World.frozen?, h]
      have := hf (off + i) (by omega)
      obtain ⟨lo, hi⟩ := fz
      simpa using this
    have hu := setCell_upd (off := off + i) h v
    obtain ⟨w', h1, h2⟩ := run_storeCells P (off := off) vs (i + 1) (w.setCell ⟨b, off + i, none⟩ v) (l.set (off + i) v) hu.at_ (by simpa using hf) (fun u hu => hc u (List.mem_cons_of_mem _ hu)) (by simp; omega)
    refine ⟨w', ?_, ?_⟩
    · simp only [storeCells, Sem.run_bind, addr_add, run_store P w _ v _ (hc v (List.mem_cons_self ..)), hcell, hfr, Bool.false_eq_true, if_false, Result.andThen_ok]
      exact h1
    · have he : (l.set (off + i) v).take (off + (i + 1)) ++ (vs ++ (l.set (off + i) v).drop (off + (i + 1) + vs.length)) = l.take (off + i) ++ (v :: vs ++ l.drop (off + i + (vs.length + 1))) := by
        rw [show off + (i + 1) = off + i + 1 by omega, show off + i + 1 + vs.length = off + i + (vs.length + 1) by omega]
        exact set_splice l (off + i) v vs (by omega)
      rw [he] at h2
      exact hu.trans h2

theorem splice_ok {ρ : Nm} {c c' vs : List SV} {l u : List Value} {off : Nat} (h : splice c off vs = some c') (hc : concs ρ c = some l) (hv : concs ρ vs = some u) :
    concs ρ c' = some (l.take off ++ (u ++ l.drop (off + u.length))) ∧ off + u.length ≤ l.length ∧ c'.length = c.length := by
  unfold splice at h
  split at h
  · rename_i hb
    cases h
    have e1 := concs_length hc
    have e2 := concs_length hv
    have hb' : off + vs.length ≤ c.length := ble_le hb
    refine ⟨?_, by omega, by simp; omega⟩
    rw [e2]
    exact concs_append (concs_take off hc) (concs_append hv (concs_drop _ hc))
  · cases h

/-- A store into a block of the call's own. -/
theorem setCells_ok {cx : Cx} {B : Nat} {ρ : Nm} {w : World} {s s' : St} (hR : Rel cx B ρ w s) {n off : Nat} {vs : List SV} {us : List Value} (h : setCells s n off vs = some s') (hv : concs ρ vs = some us)
    (hc : ∀ v ∈ us, v.oneCell' = true) : ∃ b cap w', ρ n = some (b, cap) ∧ (storeCells ⟨b, off, none⟩ us).run cx.P w = .ok () w' ∧ Rel cx B ρ w' s' ∧ Ext s s' ρ ρ w w' := by
  unfold setCells at h
  split at h
  · rename_i c e hs
    split at h
    · rename_i c' hsp
      cases h
      obtain ⟨b, cap, ob, h1, h2, h3, l, fz, h4, rfl, h6⟩ := hR.obj n _ hs
      obtain ⟨h7, h8, h9⟩ := splice_ok hsp h4 hv
      obtain ⟨w', h10, h11⟩ := run_storeCells cx.P (off := off) us 0 w l h3 h6 hc (by simpa using h8)
      simp only [Nat.add_zero] at h11
      have := set_ok hR hs h1 h11 (.cells c' e) ⟨_, fz, h7, rfl, by
        have e1 := concs_length h7
        have e2 := concs_length h4
        rw [e1, h9, ← e2]; exact h6⟩
      exact ⟨b, cap, w', h1, h10, this.1, this.2⟩
    · cases h
  · rename_i c e sz hs
    split at h
    · rename_i c' hsp
      cases h
      obtain ⟨b, cap, ob, h1, h2, h3, l, rest, fz, h4, rfl, h6, h7⟩ := hR.obj n _ hs
      obtain ⟨h8, h9, h10⟩ := splice_ok hsp h4 hv
      obtain ⟨w', h11, h12⟩ := run_storeCells cx.P (off := off) us 0 w (l ++ rest) h3 (by simpa using h6) hc (by simp; omega)
      simp only [Nat.add_zero] at h12
      have e1 := concs_length h8
      have e2 := concs_length h4
      have he : (l ++ rest).take off ++ (us ++ (l ++ rest).drop (off + us.length)) = l.take off ++ (us ++ l.drop (off + us.length)) ++ rest := by
        rw [List.take_append_of_le_length (show off ≤ l.length by omega), List.drop_append_of_le_length (show off + us.length ≤ l.length by omega)]
        simp
      rw [he] at h12
      have := set_ok hR hs h1 h12 (.vec c' e sz) ⟨_, rest, fz, h8, rfl, by rw [e1, h10, ← e2]; exact h6, by rw [e1, h10, ← e2]; exact h7⟩
      exact ⟨b, cap, w', h1, h11, this.1, this.2⟩
    · cases h
  · cases h

theorem fill_ok {ρ : Nm} {place : Nat → Option (Nat × Nat)} : ∀ {ps : List (Nat × SV)} {qs : List (Nat × Value)} {c c' : List SV} {l : List Value}, fill place c ps = some c' → concs ρ c = some l →
    ps.length = qs.length → (∀ (j : Nat) (p : Nat × SV) (q : Nat × Value), ps[j]? = some p → qs[j]? = some q → p.1 = q.1 ∧ conc ρ p.2 = some q.2) →
    ∃ l', Instr.fill place l.toArray qs = some l'.toArray ∧ concs ρ c' = some l'
  | [], [], c, c', l, h, hc, _, _ => by
    simp only [fill, Option.some.injEq] at h; subst h
    exact ⟨l, by simp [Instr.fill], hc⟩
  | (i, x) :: ps, (i', v) :: qs, c, c', l, h, hc, hl, hq => by
    obtain ⟨rfl, hx⟩ := hq 0 _ _ rfl rfl
    dsimp only at hx h
    simp only [fill] at h
    split at h
    · cases h
    · rename_i off size hp
      split at h
      · cases h
      · rename_i hsz
        split at h
        · cases h
        · rename_i c1 hs
          have hcs := cells_conc hx
          obtain ⟨h1, h2, h3⟩ := splice_ok hs hc hcs
          have esz : v.cells.size = size := by rw [cells_size hx]; exact beq_eq hsz
          obtain ⟨l', h4, h5⟩ := fill_ok (qs := qs) h h1 (by simpa using hl) (fun j p q e1 e2 => hq (j + 1) p q (by simpa using e1) (by simpa using e2))
          refine ⟨l', ?_, h5⟩
          simp only [Instr.fill, hp, esz, ne_eq, not_true_eq_false, List.size_toArray, decide_false, Bool.false_or, decide_eq_true_eq]
          rw [if_neg (by simp at h2; omega)]
          rw [← h4]
          congr 1
          exact fold_splice v.cells l off (by simpa using h2)

end Go.Proofs.YtdkkblkbonjjgabGreatDoor.Ev

namespace Go.Proofs.YtdkkblkbonjjgabGreatDoor.Ev
open Go
variable [Env]

theorem mapM_get {α β : Type} {f : α → Option β} : ∀ {l : List α} {ps : List β}, l.mapM f = some ps → ps.length = l.length ∧ ∀ (j : Nat) (a : α), l[j]? = some a → ∃ b, f a = some b ∧ ps[j]? = some b
  | [], ps, h => by simp at h; subst h; exact ⟨rfl, fun j a e => by simp at e⟩
  | x :: xs, ps, h => by
    simp only [List.mapM_cons, Option.bind_eq_bind, Option.pure_def] at h
    cases hx : f x with
    | none => simp [hx] at h
    | some y =>
      cases hr : xs.mapM f with
      | none => simp [hx, hr] at h
      | some ys =>
        simp [hx, hr] at h
        subst h
        obtain ⟨h1, h2⟩ := mapM_get hr
        refine ⟨by simp [h1], fun j a e => ?_⟩
        cases j with
        | zero => simp at e; subst e; exact ⟨y, hx, rfl⟩
        | succ j => simpa using h2 j a (by simpa using e)

theorem mapM_concs {ρ : Nm} {α : Type} {f : α → Option SV} {g : α → Value} : ∀ {l : List α} {ps : List SV}, l.mapM f = some ps → (∀ a ∈ l, ∀ sv, f a = some sv → conc ρ sv = some (g a)) → concs ρ ps = some (l.map g)
  | [], ps, h, _ => by simp at h; subst h; exact concs_nil _
  | x :: xs, ps, h, hg => by
    simp only [List.mapM_cons, Option.bind_eq_bind, Option.pure_def] at h
    cases hx : f x with
    | none => simp [hx] at h
    | some y =>
      cases hr : xs.mapM f with
      | none => simp [hx, hr] at h
      | some ys =>
        simp [hx, hr] at h
        subst h
        exact concs_cons (hg x (List.mem_cons_self ..) y hx) (mapM_concs hr fun a ha => hg a (List.mem_cons_of_mem _ ha))

/-- What is known of the operands. -/
def Evs (ρ : Nm) (ev : Operand → Option SV) (e : Operand → Value) (l : List Operand) : Prop := ∀ x ∈ l, ∀ sv, ev x = some sv → conc ρ sv = some (e x)

theorem litOf_ok {ρ : Nm} {ev : Operand → Option SV} {e : Operand → Value} {x : Operand} {u : Value} (hx : ∀ sv, ev x = some sv → conc ρ sv = some (e x)) (h : litOf ev x = some u) : e x = u := by
  unfold litOf at h
  split at h
  · rename_i v hv
    have := toValue_conc ρ v u h
    rw [hx v hv] at this
    exact Option.some.inj this
  · cases h

theorem asNat_ok {ρ : Nm} {ev : Operand → Option SV} {e : Operand → Value} {x : Operand} {n : Nat} (hx : ∀ sv, ev x = some sv → conc ρ sv = some (e x)) (h : (ev x).bind asNat? = some n) : ∃ k, e x = .int k (n : Int) := by
  cases hv : ev x with
  | none => simp [hv] at h
  | some v =>
    rw [hv] at h
    simp only [Option.bind_some, asNat?] at h
    split at h
    · rename_i k m
      split at h
      · rename_i m'
        cases h
        have := hx _ hv
        rw [conc_lit] at this
        exact ⟨k, (Option.some.inj this).symm⟩
      · cases h
    · cases h

section
variable {cx : Cx} {B : Nat} {ρ : Nm} {w : World} {s s' : St} {v : SV} {ev : Operand → Option SV} {e : Operand → Value}

theorem newCells_ok (hR : Rel cx B ρ w s) (hf : ρ s.next = none) {c : List SV} {u : List Value} (hc : concs ρ c = some u) (t : TypeId) :
    ∃ ρ', (newRow t u.toArray).run cx.P w = .ok ⟨w.heap.size, 0, none⟩ { w with heap := w.heap.push (.cells u.toArray t) } ∧ ρ' s.next = some (w.heap.size, 0) ∧
      Rel cx B ρ' { w with heap := w.heap.push (.cells u.toArray t) } (s.new (.cells c t)) ∧ Ext s (s.new (.cells c t)) ρ ρ' w { w with heap := w.heap.push (.cells u.toArray t) } := by
  have hs := Nm.put_sub (p := (w.heap.size, 0)) hf
  obtain ⟨h1, h2⟩ := new_ok hR hf (ob := .cells u.toArray t) (Psh.mk' (d := w.drawn)) (.cells c t) 0 ⟨u, (0, 0), concs_mono hs _ _ hc, rfl, fun i _ h => by omega⟩
  exact ⟨_, by simp [newRow], Nm.put_at _ _ _, h1, h2⟩

theorem done_alloc (hR : Rel cx B ρ w s) (hf : ρ s.next = none) {t : TypeId} {c : List SV} (hz : zeroCells? cx.P t = some c) :
    Done cx B (do Pure.pure (.value (← Instr.alloc t true (.tuple #[])))) ρ w s (s.new (.cells c t)) (.ptr s.next 0) := by
  obtain ⟨z, h1, h2⟩ := zeroCells_ok hz
  obtain ⟨ρ', h3, h4, h5, h6⟩ := newCells_ok hR hf (h2 ρ) t
  refine ⟨ρ', _, _, .inl ?_, conc_ptr h4, h5, h6⟩
  simp only [Instr.alloc, Sem.run_bind, h1, Result.andThen_ok, newVar, Array.toArray_toList] at h3 ⊢
  simp [h3]

theorem done_box (hR : Rel cx B ρ w s) (hf : ρ s.next = none) {t : TypeId} {x : SV} {u : Value} (hx : conc ρ x = some u) :
    Done cx B (do Pure.pure (.value (← Instr.box t u))) ρ w s (s.new (.cells x.cells t)) (.ptr s.next 0) := by
  obtain ⟨ρ', h3, h4, h5, h6⟩ := newCells_ok hR hf (cells_conc hx) t
  refine ⟨ρ', _, _, .inl ?_, conc_ptr h4, h5, h6⟩
  simp only [Array.toArray_toList] at h3 ⊢
  simp only [Instr.box, newVar, Sem.run_bind, h3, Result.andThen_ok]
  rfl

theorem places_eq (P : Program) (fields : List Field) {places : List (Nat × Nat)} (h : fields.mapM (fun f => (size? P f.type).map fun n => (f.offset, n)) = some places) :
    fields.mapM (fun f => (P.info? f.type).map fun i => (f.offset, i.size)) = some places := by
  rw [← h]
  congr 1
  funext f
  unfold size?
  cases P.info? f.type <;> rfl


theorem parts_rel {parts : Array (Nat × Operand)} {ps : List (Nat × SV)} (h : parts.toList.mapM (fun p => (ev p.2).map fun v => (p.1, v)) = some ps) (hev : ∀ p ∈ parts.toList, ∀ sv, ev p.2 = some sv → conc ρ sv = some (e p.2)) :
    ps.length = (parts.map fun (i, x) => (i, e x)).toList.length ∧ ∀ (j : Nat) (p : Nat × SV) (q : Nat × Value), ps[j]? = some p → (parts.map fun (i, x) => (i, e x)).toList[j]? = some q → p.1 = q.1 ∧ conc ρ p.2 = some q.2 := by
  obtain ⟨h1, h2⟩ := mapM_get h
  refine ⟨by simpa using h1, fun j p q hp hq => ?_⟩
  simp only [Array.toList_map, List.getElem?_map, Option.map_eq_some_iff] at hq
  obtain ⟨a, ha, rfl⟩ := hq
  obtain ⟨b, hb, hb'⟩ := h2 j a ha
  rw [hp] at hb'
  cases hb'
  cases hv : ev a.2 with
  | none => simp [hv] at hb
  | some sv =>
    simp only [hv, Option.map_some, Option.some.injEq] at hb
    subst hb
    exact ⟨rfl, hev a (List.mem_of_getElem? ha) sv hv⟩

theorem zero_info {P : Program} {t : TypeId} {l : List SV} (h : zeroCells? P t = some l) : ∃ i z, P.info? t = some i ∧ i.zero = some z ∧ l = z.cells.toList.map .lit := by
  unfold zeroCells? at h
  split at h
  · rename_i i hi
    split at h
    · rename_i v hv
      cases h
      exact ⟨i, v, hi, hv, rfl⟩
    · cases h
  · cases h

theorem size_info {P : Program} {t : TypeId} {n : Nat} (h : size? P t = some n) : ∃ i, P.info? t = some i ∧ i.size = n := by
  unfold size? at h
  split at h
  · rename_i i hi
    cases h
    exact ⟨i, hi, rfl⟩
  · cases h

theorem done_build (hR : Rel cx B ρ w s) {t : TypeId} {parts : Array (Nat × Operand)} (hev : ∀ p ∈ parts.toList, ∀ sv, ev p.2 = some sv → conc ρ sv = some (e p.2))
    {r : Option (SV × St)} (h : r = some (v, s')) (hr : r = (match zeroCells? cx.P t, (parts.toList.mapM fun p => (ev p.2).map fun v => (p.1, v)) with
    | some z, some ps => match cx.P.underlying t with
      | some (.struct fields) => match fields.toList.mapM (fun f => (size? cx.P f.type).map fun n => (f.offset, n)) with
        | some places => (fill (fun i => places[i]?) z ps).map fun c => (.agg c, s)
        | none => none
      | some (.array _ elem) => match size? cx.P elem with
        | some n => (fill (fun i => some (Nat.mul i n, n)) z ps).map fun c => (.agg c, s)
        | none => none
      | _ => none
    | _, _ => none)) : Done cx B (do Pure.pure (.value (← Instr.build t (parts.map fun (i, x) => (i, e x))))) ρ w s s' v := by
  subst hr
  split at h
  · rename_i z ps hz hps
    obtain ⟨hl, hp⟩ := parts_rel hps hev
    obtain ⟨i, zv, hi, hz', rfl⟩ := zero_info hz
    split at h
    · rename_i fields hu
      split at h
      · rename_i places hpl
        simp only [Option.map_eq_some_iff, Prod.mk.injEq] at h
        obtain ⟨c, hc, rfl, rfl⟩ := h
        obtain ⟨l', h1, h2⟩ := fill_ok hc (concs_lits ρ _) hl hp
        refine Done.same hR ?_ (conc_agg h2)
        rw [Sem.run_bind, run_build w t _ l'.toArray]
        · rfl
        · have h1' : Instr.fill (fun i => places[i]?) zv.cells (parts.map fun (i, x) => (i, e x)).toList = some l'.toArray := by simpa using h1
          simp [Program.built, hi, hu, hz', places_eq cx.P _ hpl]
          simpa using h1'
      · cases h
    · rename_i k elem hu
      split at h
      · rename_i n hn
        simp only [Option.map_eq_some_iff, Prod.mk.injEq] at h
        obtain ⟨c, hc, rfl, rfl⟩ := h
        obtain ⟨l', h1, h2⟩ := fill_ok hc (concs_lits ρ _) hl hp
        obtain ⟨ie, hie, rfl⟩ := size_info hn
        refine Done.same hR ?_ (conc_agg h2)
        rw [Sem.run_bind, run_build w t _ l'.toArray]
        · rfl
        · simp [Program.built, hi, hu, hz', hie]
          simpa using h1
      · cases h
    · cases h
  · cases h

theorem concs_repeat {l : List SV} {u : List Value} (h : concs ρ l = some u) : ∀ n, concs ρ (repeatL n l) = some ((List.replicate n u).flatten)
  | 0 => concs_nil _
  | n + 1 => by
    simp only [repeatL, List.replicate_succ, List.flatten_cons]
    exact concs_append h (concs_repeat h n)

theorem range_mod (z : Array Value) (n : Nat) : (Array.range (n * z.size)).map (fun i => z[i % z.size]!) = ((List.replicate n z.toList).flatten).toArray := by
  apply Array.ext'
  simp only [Array.toList_map, Array.toList_range]
  induction n with
  | zero => simp
  | succ n ih =>
    rw [List.replicate_succ', List.flatten_append, ← ih, Nat.succ_mul, List.range_add, List.map_append]
    congr 1
    simp only [List.map_map, List.flatten_cons, List.flatten_nil, List.append_nil]
    apply List.ext_getElem
    · simp
    · intro j h1 h2
      simp at h1
      simp [Nat.mod_eq_of_lt h1, h1]

theorem range0 (f : Nat → Value) : (Array.range 0).map f = #[] := by apply Array.ext'; simp

theorem done_buildSlice (hR : Rel cx B ρ w s) (hf : Fresh ρ s.next s'.next) {t : TypeId} {len : Nat} {parts : Array (Nat × Operand)} (hev : ∀ p ∈ parts.toList, ∀ sv, ev p.2 = some sv → conc ρ sv = some (e p.2))
    {r : Option (SV × St)} (h : r = some (v, s')) (hr : r = (match cx.P.underlying t, (parts.toList.mapM fun p => (ev p.2).map fun v => (p.1, v)) with
    | some (.slice elem), some ps => match size? cx.P elem, zeroCells? cx.P elem with
      | some n, some z => match Nat.beq z.length n && Nat.blt 0 n && Nat.ble (Nat.mul len n) 16777216 with
        | true => match fill (fun i => some (Nat.mul i n, n)) (repeatL len z) ps with
          | some c => some (.sl s.next 0 len len, s.new (.cells c elem))
          | none => none
        | false => none
      | _, _ => none
    | _, _ => none)) : Done cx B (do Pure.pure (.value (← Instr.buildSlice t len (parts.map fun (i, x) => (i, e x))))) ρ w s s' v := by
  subst hr
  split at h
  · rename_i elem ps hu hps
    obtain ⟨hl, hp⟩ := parts_rel hps hev
    split at h
    · rename_i n z hn hz
      split at h
      · rename_i hchk
        simp only [Bool.and_eq_true] at hchk
        obtain ⟨⟨hc1, hc2⟩, hc3⟩ := hchk
        have hc1 := beq_eq hc1
        have hc2 := blt_lt hc2
        have hc3 : len * n ≤ 16777216 := ble_le hc3
        split at h
        · rename_i c hc
          cases h
          obtain ⟨i, zv, hi, hz', rfl⟩ := zero_info hz
          obtain ⟨l', h1, h2⟩ := fill_ok hc (concs_repeat (concs_lits ρ _) len) hl hp
          have hzs : zv.cells.size = n := by simpa using hc1
          subst hzs
          obtain ⟨ρ', h3, h4, h5, h6⟩ := newCells_ok hR (hf s.next (Nat.le_refl _) (by show s.next < s.next + 1; omega)) h2 elem
          refine ⟨ρ', _, _, .inl ?_, conc_sl h4, h5, h6⟩
          have hrm := range_mod zv.cells len
          rw [← hrm] at h1
          have h1' : Instr.fill (fun i => some (i * zv.cells.size, zv.cells.size)) ((Array.range (len * zv.cells.size)).map (fun i => zv.cells[i % zv.cells.size]!)) (parts.map fun (i, x) => (i, e x)).toList = some l'.toArray := h1
          simp only [Instr.buildSlice, Sem.run_bind, underlying_ok hu, Result.andThen_ok, size_ok hn, Sem.run_ite]
          rw [if_neg (by omega)]
          by_cases h0 : len * zv.cells.size = 0
          · simp only [h0, if_true, Sem.run_pure, Result.andThen_ok]
            rw [h0] at h1'
            rw [range0] at h1' ⊢
            rw [h1']
            simp only [Sem.run_bind, h3, Result.andThen_ok]
            rfl
          · have hzz : (zeroValue elem).run cx.P w = .ok zv w := by simp [zeroValue, typeInfo, hi, hz']
            simp only [if_neg h0, Sem.run_bind, hzz, Result.andThen_ok, Sem.run_pure, h1', h3]
        · cases h
      · cases h
    · cases h
  · cases h
end
end Go.Proofs.YtdkkblkbonjjgabGreatDoor.Ev

namespace Go.Proofs.YtdkkblkbonjjgabGreatDoor.Ev
open Go
variable [Env]
section
variable {cx : Cx} {B : Nat} {ρ : Nm} {w : World} {s s' : St} {v : SV} {ev : Operand → Option SV} {e : Operand → Value}

theorem done_load (hR : Rel cx B ρ w s) {t : TypeId} {p : SV} {a : Value} (hp : conc ρ p = some a) (h : load cx s t p = some v) :
    Done cx B (do Pure.pure (.value (← Instr.loadAt t a))) ρ w s s v := by
  obtain ⟨b, off, cv, h1, h2, h3⟩ := load_ok hR h
  rw [hp] at h1
  cases h1
  refine Done.same hR ?_ h2
  simp only [Instr.loadAt, Instr.sureAddr, Sem.run_bind, Sem.run_pure, Result.andThen_ok, h3]

theorem done_store (hR : Rel cx B ρ w s) {t : TypeId} {p x : SV} {a u : Value} (hp : conc ρ p = some a) (hx : conc ρ x = some u) (h : store cx s t p x = some s') :
    Done cx B (do Instr.storeAt t a u; Pure.pure .skip) ρ w s s' (.lit undef) := by
  unfold store at h
  split at h
  · rename_i n off sz hsz
    split at h
    · rename_i hc
      simp only [Bool.and_eq_true] at hc
      have hcs := cells_conc hx
      obtain ⟨b, cap, w', h1, h2, h3, h4⟩ := setCells_ok hR h hcs (isCells_ok hcs hc.2)
      rw [conc_ptr h1] at hp
      cases hp
      refine ⟨ρ, w', undef, .inr ⟨?_, rfl⟩, conc_lit _ _, h3, h4⟩
      have hs : u.cells.size = sz := by rw [cells_size hx]; exact beq_eq hc.1
      simp only [Instr.storeAt, Instr.sureAddr, Sem.run_bind, Sem.run_pure, Result.andThen_ok, storeVar, size_ok hsz, hs, ne_eq, not_true_eq_false, if_false]
      rw [h2]
      rfl
    · cases h
  · cases h

theorem symInt_ok {v : SV} {k : IntKind} {i : IE} (h : symInt v = some (k, i)) : conc ρ v = some (.int k i.den) := by
  unfold symInt at h
  split at h
  · cases h; simp [conc]
  · cases h; simp [conc, IE.den]
  · cases h
theorem symStr_ok {v : SV} {i : SE} (h : symStr v = some i) : conc ρ v = some (.string i.den) := by
  unfold symStr at h
  split at h
  · cases h; simp [conc]
  · cases h; simp [conc, SE.den]
  · cases h

theorem pin_ok {fs : List Fact} (hf : ∀ f ∈ fs, f.holds) (k : IntKind) (e : IE) : conc ρ (pin fs k e) = some (.int k e.den) := by
  unfold pin
  split
  · rename_i l h hl hh
    split
    · rename_i hd
      have hd := of_decide_eq_true hd
      have h1 := loF_ok fs e _ hf hl
      have h2 := hiF_ok fs e _ hf hh
      have : l = e.den := by omega
      subst this
      simp [conc]
    · simp [conc]
  · simp [conc]
theorem zeroLit_ok {y : IE} (h : zeroLit y = false) : y.den ≠ 0 := by
  unfold zeroLit at h
  split at h
  · split at h
    · simp only [IE.den]
      intro hc
      cases hc
    · cases h
  · cases h

theorem symBin_ok {fs : List Fact} (hf : ∀ f ∈ fs, f.holds) {P : Program} {op : BinOp} (t : TypeId) {a b r : SV} {x y : Operand} {u u' : Value} (h : symBin fs op a b = some r) (ha : conc ρ a = some u) (hb : conc ρ b = some u') (w : World) :
    ∃ cv, (do eqGuard op t x y u u'; Go.binOp op t u u' : Sem Value).run P w = .ok cv w ∧ conc ρ r = some cv := by
  unfold symBin at h
  split at h
  · rename_i k i k' j hi hj
    rw [symInt_ok hi] at ha
    rw [symInt_ok hj] at hb
    cases ha; cases hb
    split at h
    · rename_i hk
      have hk := of_decide_eq_true hk
      subst hk
      have hg : (eqGuard op t x y (.int k i.den) (.int k j.den)).run P w = .ok () w := by
        unfold eqGuard
        cases op <;> rfl
      simp only [Sem.run_bind, hg, Result.andThen_ok]
      split at h
      · cases h; exact ⟨_, by simp [Go.binOp, Op.intArith]; rfl, by rw [pin_ok hf]; simp [IE.den, iop]⟩
      · cases h; exact ⟨_, by simp [Go.binOp, Op.intArith]; rfl, by rw [pin_ok hf]; simp [IE.den, iop]⟩
      · cases h; exact ⟨_, by simp [Go.binOp, Op.intArith]; rfl, by rw [pin_ok hf]; simp [IE.den, iop]⟩
      · split at h
        · rename_i hz
          have hz := zeroLit_ok hz
          cases h; exact ⟨_, by simp [Go.binOp, Op.intDiv, hz]; rfl, by rw [pin_ok hf]; simp [IE.den, iop]⟩
        · cases h
      · split at h
        · rename_i hz
          have hz := zeroLit_ok hz
          cases h; exact ⟨_, by simp [Go.binOp, Op.intDiv, hz]; rfl, by rw [pin_ok hf]; simp [IE.den, iop]⟩
        · cases h
      all_goals (try (cases h; done))
      all_goals
        simp only [Option.map_eq_some_iff] at h
        obtain ⟨c, hc, rfl⟩ := h
        first
          | have hc := eqD_ok hf hc
          | have hc := ltD_ok hf hc
        refine ⟨_, ?_, conc_lit _ _⟩
        simp only [Go.binOp, ne_eq, not_true_eq_false, if_false, Op.intCmp, Sem.run_pure]
        rw [← hc]
        try congr 2
        all_goals try (simp only [decide_eq_decide, Value.bool.injEq, bne, beq_eq_decide, gt_iff_lt, ge_iff_le, ← decide_not, Int.not_lt]; done)
        all_goals (rw [← decide_not, decide_eq_decide]; omega)
    · cases h
  · split at h
    · rename_i i j hi hj
      rw [symStr_ok hi] at ha
      rw [symStr_ok hj] at hb
      cases ha; cases hb
      have hg : (eqGuard op t x y (.string i.den) (.string j.den)).run P w = .ok () w := by
        unfold eqGuard
        cases op <;> rfl
      simp only [Sem.run_bind, hg, Result.andThen_ok]
      split at h
      · simp only [Option.map_eq_some_iff] at h
        obtain ⟨c, hc, rfl⟩ := h
        have hc := seqD_ok hf hc
        refine ⟨_, ?_, conc_lit _ _⟩
        simp only [Go.binOp, Op.stringOp, Sem.run_pure, hc]
      · simp only [Option.map_eq_some_iff] at h
        obtain ⟨c, hc, rfl⟩ := h
        have hc := seqD_ok hf hc
        refine ⟨_, ?_, conc_lit _ _⟩
        simp only [Go.binOp, Op.stringOp, Sem.run_pure, hc]
      · split at h
        · rename_i k l hk hl
          split at h
          · rename_i hd
            cases h
            have hd := of_decide_eq_true hd
            have h1 := sizeHi_ok hf _ _ hk
            have h2 := sizeHi_ok hf _ _ hl
            refine ⟨_, ?_, by simp only [conc]; rfl⟩
            have hm : IntKind.i64.max = 9223372036854775807 := rfl
            simp only [Go.binOp, Op.stringOp, hm]
            rw [if_neg (by omega)]
            rfl
          · cases h
        · cases h
      · cases h
    · cases h

theorem samePtr_ok {P : Program} {t : TypeId} {a b : SV} {u u' : Value} (h : samePtr P t a b = true) (ha : conc ρ a = some u) (hb : conc ρ b = some u') :
    ∃ ad te ji, u = .pointer (some ad) ∧ u' = .pointer (some ad) ∧ P.underlying t = some (.pointer te) ∧ P.info? te = some ji := by
  unfold samePtr at h
  split at h
  · rename_i te n o m p hu
    split at h
    · rename_i ji hj
      simp only [Bool.and_eq_true] at h
      have q1 := beq_eq h.1
      have q2 := beq_eq h.2
      subst q1; subst q2
      rw [ha] at hb
      have e12 := Option.some.inj hb
      simp only [conc, Option.map_eq_some_iff] at ha
      obtain ⟨pp, _, ha⟩ := ha
      exact ⟨_, te, ji, ha.symm, by rw [← e12, ← ha], hu, hj⟩
    · cases h
  · cases h

theorem done_binOp (hR : Rel cx B ρ w s) {op : BinOp} {t : TypeId} {x y : Operand} (hx : ∀ sv, ev x = some sv → conc ρ sv = some (e x)) (hy : ∀ sv, ev y = some sv → conc ρ sv = some (e y))
    {r : Option (SV × St)} (h : r = some (v, s')) (hr : r = (match ev x, ev y with
    | some a, some b => match a.toValue?, b.toValue? with
      | some u, some v => (pureRun cx.P (do eqGuard op t x y u v; Go.binOp op t u v)).map fun v => (.lit v, s)
      | _, _ => match symBin cx.facts op a b with
        | some r => some (r, s)
        | none => match op, madeNil cx.P t a b, samePtr cx.P t a b with
          | .eql, true, _ => some (.lit (.bool false), s)
          | .neq, true, _ => some (.lit (.bool true), s)
          | .neq, _, true => some (.lit (.bool false), s)
          | _, _, _ => none
    | _, _ => none)) : Done cx B (do Pure.pure (.value (← (do eqGuard op t x y (e x) (e y); Go.binOp op t (e x) (e y) : Sem Value)))) ρ w s s' v := by
  subst hr
  split at h
  · rename_i a b ha hb
    split at h
    · rename_i u u' hu hu'
      have e1 : e x = u := by
        have := toValue_conc ρ a u hu
        rw [hx a ha] at this
        exact Option.some.inj this
      have e2 : e y = u' := by
        have := toValue_conc ρ b u' hu'
        rw [hy b hb] at this
        exact Option.some.inj this
      simp only [Option.map_eq_some_iff, Prod.mk.injEq] at h
      obtain ⟨c, hc, rfl, rfl⟩ := h
      rw [e1, e2]
      exact Done.pure hR hc
    · have key : madeNil cx.P t a b = true → (eqGuard op t x y (e x) (e y)).run cx.P w = .ok () w ∧ (Op.equal t (e x) (e y)).run cx.P w = .ok false w ∧
          (op = .eql → (Go.binOp op t (e x) (e y)) = (do Pure.pure (.bool (← Op.equal t (e x) (e y))))) ∧ (op = .neq → (Go.binOp op t (e x) (e y)) = (do Pure.pure (.bool (!(← Op.equal t (e x) (e y)))))) := by
        intro hm
        have h1 := hx a ha
        have h2 := hy b hb
        unfold madeNil at hm
        split at hm
        all_goals (try (cases hm; done))
        all_goals
          have hu := ‹cx.P.underlying t = some _›
          simp only [conc, Option.map_eq_some_iff, Option.some.injEq] at h1 h2
        all_goals (first | (obtain ⟨p1, _, h1⟩ := h1) | skip)
        all_goals (first | (obtain ⟨p2, _, h2⟩ := h2) | skip)
        all_goals
          rw [← h1, ← h2]
          refine ⟨?_, ?_, ?_, ?_⟩
          · unfold eqGuard
            cases op <;> rfl
          · rw [Op.equal, show Op.maxDepth = 9999 + 1 from rfl, Op.equalIn]
            simp only [Sem.run_bind, underlying_ok hu, Result.andThen_ok]
            rfl
          · rintro rfl
            rfl
          · rintro rfl
            rfl
      split at h
      · rename_i sr hsym
        cases h
        obtain ⟨cv, q1, q2⟩ := symBin_ok (x := x) (y := y) cx.fok t hsym (hx a ha) (hy b hb) w
        exact Done.same hR (by rw [Sem.run_bind, q1]; rfl) q2
      split at h
      · rename_i hm _
        obtain ⟨g, h2, h3, h4⟩ := key hm
        cases h
        refine Done.same hR (cv := .bool false) ?_ (conc_lit _ _)
        simp only [Sem.run_bind, g, Result.andThen_ok, h3 rfl, h2, Sem.run_pure]
      · rename_i hm _
        obtain ⟨g, h2, h3, h4⟩ := key hm
        cases h
        refine Done.same hR (cv := .bool true) ?_ (conc_lit _ _)
        simp only [Sem.run_bind, g, Result.andThen_ok, h4 rfl, h2, Sem.run_pure]
        rfl
      · have hm : samePtr cx.P t a b = true := by assumption
        cases h
        obtain ⟨ad, te, ji, q1, q2, q3, q4⟩ := samePtr_ok hm (hx a ha) (hy b hb)
        refine Done.same hR (cv := .bool false) ?_ (conc_lit _ _)
        rw [q1, q2]
        have hg : (eqGuard .neq t x y (.pointer (some ad)) (.pointer (some ad))).run cx.P w = .ok () w := by
          unfold eqGuard
          rfl
        simp only [Sem.run_bind, hg, Result.andThen_ok, Go.Lib.run_neq_ptr_same w _ q3 q4, Sem.run_pure]
      · cases h
  · cases h

theorem done_makeFunc (hR : Rel cx B ρ w s) {f : Fn} {first caps : Array Operand} {cs : List SV} (hfirst : first.toList = []) (hc : caps.toList.mapM ev = some cs) (hev : ∀ x ∈ caps.toList, ∀ sv, ev x = some sv → conc ρ sv = some (e x)) :
    Done cx B (do Pure.pure (.value (← Instr.makeFunc f (first.map e) (caps.map e)))) ρ w s s (.fn f cs) := by
  have h1 := mapM_concs hc hev
  refine Done.same hR (cv := .func f #[] (caps.toList.map e).toArray) ?_ (conc_fn h1)
  have hf : first = #[] := by
    apply Array.ext'
    simpa using hfirst
  subst hf
  simp only [Instr.makeFunc, Array.map_empty, Sem.run_bind, Sem.run_pure, Result.andThen_ok]
  congr 4
  apply Array.ext'
  simp

theorem done_makeMap (hR : Rel cx B ρ w s) (hf : ρ s.next = none) {kt : TypeId} {m : Sem Value} (hm : m.run cx.P w = .ok (.map (some w.heap.size)) { w with heap := w.heap.push (.map #[] 0) }) :
    Done cx B (do Pure.pure (.value (← m))) ρ w s (s.new (.map kt [])) (.mp s.next) := by
  obtain ⟨h1, h2⟩ := new_ok hR hf (ob := .map #[] 0) (Psh.mk' (d := w.drawn)) (.map kt []) 0 ⟨[], [], 0, rfl, rfl, .refl _⟩
  refine ⟨_, _, _, .inl ?_, by simp only [conc, Nm.put_at]; rfl, h1, h2⟩
  rw [Sem.run_bind, hm]
  rfl

theorem wrap_small (n : Nat) (h : n ≤ 100000) : IntKind.i64.wrap (n : Int) = n := IntWalk.i64_in _ (by omega)

theorem done_makeSlice (hR : Rel cx B ρ w s) (hf : ρ s.next = none) {t elem : TypeId} {kl kc : IntKind} {len cap : Nat} {i : TypeInfo} {z : List SV} (hu : cx.P.underlying t = some (.slice elem)) (hi : cx.P.info? elem = some i) (hz : zeroCells? cx.P elem = some z)
    (h1 : len ≤ cap) (h2 : cap ≤ 100000) (h3 : z.length = i.size) (h4 : i.bytes * cap ≤ 281474976710656) :
    Done cx B (do Pure.pure (.value (← Instr.makeSlice t (.int kl (len : Int)) (.int kc (cap : Int))))) ρ w s (s.new (.cells (repeatL cap z) elem)) (.sl s.next 0 len cap) := by
  obtain ⟨i', zv, hi', hz', rfl⟩ := zero_info hz
  rw [hi] at hi'
  cases hi'
  have hzs : zv.cells.size = i.size := by simpa using h3
  obtain ⟨ρ', h5, h6, h7, h8⟩ := newCells_ok hR hf (concs_repeat (ρ := ρ) (concs_lits ρ zv.cells.toList) cap) elem
  refine ⟨ρ', _, _, .inl ?_, conc_sl h6, h7, h8⟩
  have w1 := wrap_small len (by omega)
  have w2 := wrap_small cap h2
  have t1 : (typeInfo elem).run cx.P w = .ok i w := by simp [typeInfo, hi]
  have t2 : (zeroValue elem).run cx.P w = .ok zv w := by simp [zeroValue, typeInfo, hi, hz']
  have t3 : (sizeOf elem).run cx.P w = .ok i.size w := by simp [sizeOf, typeInfo, hi]
  have hb : ¬ ((i.bytes : Int) * (cap : Int) > 2 ^ 48) := by
    have : ((i.bytes * cap : Nat) : Int) ≤ ((281474976710656 : Nat) : Int) := Int.ofNat_le.2 h4
    rw [Int.natCast_mul] at this
    have e : (2 : Int) ^ 48 = ((281474976710656 : Nat) : Int) := by decide
    rw [e]
    omega
  have hrm := range_mod zv.cells cap
  rw [hzs] at hrm
  simp only [Instr.makeSlice, Sem.run_bind, underlying_ok hu, Result.andThen_ok, asInt, asIntOf, Sem.run_pure, t1, w1, w2]
  rw [if_neg]
  · simp only [Sem.run_bind, run_askRoom, Result.andThen_ok, t3, Int.toNat_natCast]
    by_cases h0 : cap * i.size = 0
    · simp only [h0, if_true, range0]
      rw [h0, range0] at hrm
      rw [← hrm] at h5 ⊢
      simp only [Sem.run_bind, h5, Result.andThen_ok, Sem.run_pure]
    · simp only [if_neg h0, Sem.run_bind, t2, Sem.run_pure, Result.andThen_ok]
      rw [← hzs] at hrm ⊢
      rw [hrm]
      simp only [h5, Result.andThen_ok]
  · simp only [Bool.or_eq_true, decide_eq_true_eq, not_or]
    refine ⟨⟨⟨by omega, hb⟩, by omega⟩, by omega⟩
end
end Go.Proofs.YtdkkblkbonjjgabGreatDoor.Ev

namespace Go.Proofs.YtdkkblkbonjjgabGreatDoor.Ev
open Go
variable [Env]
section
variable {cx : Cx} {B : Nat} {ρ : Nm} {w : World} {s s' : St} {v : SV} {ev : Operand → Option SV} {e : Operand → Value}

theorem part_ok {t : TypeId} {l : List SV} {off : Nat} {us : List Value} (hl : concs ρ l = some us) (h : part cx.P t l off = some v) : ∃ cv, conc ρ v = some cv ∧ (Go.part t us.toArray off).run cx.P w = .ok cv w := by
  unfold part at h
  split at h
  · rename_i ha
    split at h
    · rename_i n hn
      simp only [Option.map_eq_some_iff] at h
      obtain ⟨r, hr, rfl⟩ := h
      obtain ⟨h1, h2⟩ := range_ok hr hl
      refine ⟨_, conc_agg h1, ?_⟩
      simp only [Go.part, Sem.run_bind, isAgg_ok ha, Result.andThen_ok, if_true, size_ok hn, Sem.run_pure]
      congr 2
      apply Array.ext'
      simp
    · cases h
  · rename_i ha
    obtain ⟨u, h1, h2⟩ := concs_get off hl h
    refine ⟨u, h1, ?_⟩
    simp [Go.part, isAgg_ok ha, h2]
  · cases h

theorem aggCells_ok {a : SV} {l : List SV} {u : Value} (h : aggCells a = some l) (ha : conc ρ a = some u) : ∃ us, concs ρ l = some us ∧ u = .agg us.toArray := by
  unfold aggCells at h
  split at h
  · cases h
    simp only [conc, Option.map_eq_some_iff] at ha
    obtain ⟨vs, h1, rfl⟩ := ha
    exact ⟨vs, h1, rfl⟩
  · cases h
    rw [conc_lit] at ha
    cases ha
    exact ⟨_, concs_lits ρ _, by simp⟩
  · cases h

theorem done_field (hR : Rel cx B ρ w s) {t : TypeId} {x : Operand} {f : Nat} (hx : ∀ sv, ev x = some sv → conc ρ sv = some (e x))
    {r : Option (SV × St)} (h : r = some (v, s')) (hr : r = (match ev x with
    | some a => match cx.P.underlying t with
      | some (.struct fields) => match fields[f]? with
        | some fl => match aggCells a with
          | some l => (part cx.P fl.type l fl.offset).map fun v => (v, s)
          | none => none
        | none => none
      | _ => none
    | none => none)) : Done cx B (do Pure.pure (.value (← Instr.field t (e x) f))) ρ w s s' v := by
  subst hr
  split at h
  · rename_i a ha
    split at h
    · rename_i fields hu
      split at h
      · rename_i fl hfl
        split at h
        · rename_i l hl
          simp only [Option.map_eq_some_iff, Prod.mk.injEq] at h
          obtain ⟨v', hp, rfl, rfl⟩ := h
          obtain ⟨us, h1, h2⟩ := aggCells_ok hl (hx a ha)
          obtain ⟨cv, h3, h4⟩ := part_ok (w := w) h1 hp
          refine Done.same hR ?_ h3
          simp only [Instr.field, Sem.run_bind, underlying_ok hu, Result.andThen_ok, hfl, h2, asAgg, Sem.run_pure, h4]
        · cases h
      · cases h
    · cases h
  · cases h

theorem done_index (hR : Rel cx B ρ w s) {t : TypeId} {x ix : Operand} (hx : ∀ sv, ev x = some sv → conc ρ sv = some (e x)) (hix : ∀ sv, ev ix = some sv → conc ρ sv = some (e ix))
    {r : Option (SV × St)} (h : r = some (v, s')) (hr : r = (match ev x with
    | some (.sstr e) => match cx.P.underlying t, (ev ix).bind asNat? with
      | some .string, some i => match ltD cx.facts (.lit i) (.len e) with
        | some true => some (.sint .u8 (.at_ e i), s)
        | _ => none
      | _, _ => none
    | some (.agg l) => match cx.P.underlying t, (ev ix).bind asNat? with
      | some (.array len elem), some i => match size? cx.P elem, Nat.blt i len with
        | some size, true => (part cx.P elem l (Nat.mul i size)).map fun v => (v, s)
        | _, _ => none
      | _, _ => none
    | some a => match a.toValue?, litOf ev ix with
      | some u, some iv => (pureRun cx.P (Instr.index t u iv)).map fun v => (.lit v, s)
      | _, _ => none
    | none => none)) : Done cx B (do Pure.pure (.value (← Instr.index t (e x) (e ix)))) ρ w s s' v := by
  subst hr
  split at h
  · rename_i se ha
    split at h
    · rename_i i hu hi
      split at h
      · rename_i hb
        cases h
        have h1 := hx _ ha
        simp only [conc, Option.some.injEq] at h1
        obtain ⟨k, hk⟩ := asNat_ok hix hi
        have hlt := of_decide_eq_true (ltD_ok cx.fok hb)
        have hlt : i < se.den.size := by simp only [IE.den] at hlt; omega
        refine Done.same hR (cv := .int .u8 (IE.den (.at_ se i))) ?_ (by simp [conc])
        have hget : se.den[i]? = some (se.den[i]'hlt) := by simp [hlt]
        simp only [Instr.index, hk, ← h1, asIntOf, Sem.run_bind, Sem.run_pure, Result.andThen_ok, underlying_ok hu]
        rw [if_pos (by omega)]
        simp only [Int.toNat_natCast, hget, IE.den]
        rfl
      · cases h
    · cases h
  · rename_i l ha
    split at h
    · rename_i len elem i hu hi
      split at h
      · rename_i size hs hb
        simp only [Option.map_eq_some_iff, Prod.mk.injEq] at h
        obtain ⟨v', hp, rfl, rfl⟩ := h
        obtain ⟨us, h1, h2⟩ := aggCells_ok (a := .agg l) rfl (hx _ ha)
        obtain ⟨cv, h3, h4⟩ := part_ok (w := w) h1 hp
        obtain ⟨k, hk⟩ := asNat_ok hix hi
        have hlt := blt_lt hb
        refine Done.same hR ?_ h3
        simp only [Instr.index, hk, h2, asIntOf, Sem.run_bind, Sem.run_pure, Result.andThen_ok, underlying_ok hu]
        rw [if_pos ⟨by omega, by omega⟩]
        simp only [Sem.run_bind, size_ok hs, Result.andThen_ok, Int.toNat_natCast]
        have h4' : (Go.part elem us.toArray (i * size)).run cx.P w = .ok cv w := h4
        rw [h4']
        rfl
      · cases h
    · cases h
  · rename_i a _ _ ha
    split at h
    · rename_i u iv hu hiv
      simp only [Option.map_eq_some_iff, Prod.mk.injEq] at h
      obtain ⟨c, hc, rfl, rfl⟩ := h
      have e1 : e x = u := by
        have := toValue_conc ρ a u hu
        rw [hx a ha] at this
        exact Option.some.inj this
      rw [e1, litOf_ok hix hiv]
      exact Done.pure hR hc
    · cases h
  · cases h

theorem done_fieldAddr (hR : Rel cx B ρ w s) {t : TypeId} {x : Operand} {f : Nat} (hx : ∀ sv, ev x = some sv → conc ρ sv = some (e x))
    {r : Option (SV × St)} (h : r = some (v, s')) (hr : r = (match ev x with
    | some (.ptr n off) => match cx.P.underlying t with
      | some (.struct fields) => match fields[f]? with
        | some fl => match size? cx.P fl.type with
          | some (_ + 1) => some (.ptr n (Nat.add off fl.offset), s)
          | _ => none
        | none => none
      | _ => none
    | some a => match a.toValue? with
      | some u => (pureRun cx.P (Instr.fieldAt t u f)).map fun v => (.lit v, s)
      | none => none
    | none => none)) : Done cx B (do Pure.pure (.value (← Instr.fieldAt t (e x) f))) ρ w s s' v := by
  subst hr
  split at h
  · rename_i n off ha
    split at h
    · rename_i fields hu
      split at h
      · rename_i fl hfl
        split at h
        · rename_i k hs
          cases h
          have h1 := hx _ ha
          simp only [conc, Option.map_eq_some_iff] at h1
          obtain ⟨⟨b, c⟩, h2, h3⟩ := h1
          refine Done.same hR ?_ (conc_ptr h2)
          rw [← h3]
          simp only [Instr.fieldAt, Sem.run_bind, underlying_ok hu, Result.andThen_ok, hfl, Instr.sureAddr, Sem.run_pure, fieldPlace, size_ok hs, addr_add]
          rfl
        · cases h
      · cases h
    · cases h
  · rename_i a _ ha
    split at h
    · rename_i u hu
      simp only [Option.map_eq_some_iff, Prod.mk.injEq] at h
      obtain ⟨c, hc, rfl, rfl⟩ := h
      have e1 : e x = u := by
        have := toValue_conc ρ a u hu
        rw [hx a ha] at this
        exact Option.some.inj this
      rw [e1]
      exact Done.pure hR hc
    · cases h
  · cases h

theorem run_indexAt_slice {t elem : TypeId} {k : IntKind} {i size len cap b off : Nat} (hu : cx.P.underlying t = some (.slice elem)) (hs : size? cx.P elem = some size) (hlt : i < len) :
    (Instr.indexAt t (.slice (some ⟨b, off, none⟩) len cap) (.int k (i : Int))).run cx.P w = .ok (.pointer (some ⟨b, off + i * size, none⟩)) w := by
  simp only [Instr.indexAt, asIntOf, Sem.run_bind, Sem.run_pure, Result.andThen_ok, underlying_ok hu]
  rw [if_pos ⟨by omega, by omega⟩]
  simp only [Sem.run_bind, size_ok hs, Result.andThen_ok, Int.toNat_natCast, addr_add, Sem.run_pure]

theorem run_indexAt_array {t elem : TypeId} {k : IntKind} {i size len b off : Nat} (hu : cx.P.underlying t = some (.array len elem)) (hs : size? cx.P elem = some size) (hlt : i < len) :
    (Instr.indexAt t (.pointer (some ⟨b, off, none⟩)) (.int k (i : Int))).run cx.P w = .ok (.pointer (some ⟨b, off + i * size, none⟩)) w := by
  simp only [Instr.indexAt, asIntOf, Sem.run_bind, Sem.run_pure, Result.andThen_ok, underlying_ok hu, Instr.sureAddr]
  rw [if_pos ⟨by omega, by omega⟩]
  simp only [Sem.run_bind, size_ok hs, Result.andThen_ok, Int.toNat_natCast, addr_add, Sem.run_pure]

theorem done_indexAddr (hR : Rel cx B ρ w s) {t : TypeId} {x ix : Operand} (hx : ∀ sv, ev x = some sv → conc ρ sv = some (e x)) (hix : ∀ sv, ev ix = some sv → conc ρ sv = some (e ix))
    {r : Option (SV × St)} (h : r = some (v, s')) (hr : r = (match ev x, (ev ix).bind asNat? with
    | some a, some i => match cx.P.underlying t, a with
      | some (.slice elem), .sl n off len _ => match size? cx.P elem, Nat.blt i len with
        | some size, true => some (.ptr n (Nat.add off (Nat.mul i size)), s)
        | _, _ => none
      | some (.slice elem), .vs n off len _ => match size? cx.P elem, Nat.blt i len with
        | some size, true => some (.ptr n (Nat.add off (Nat.mul i size)), s)
        | _, _ => none
      | some (.array len elem), .ptr n off => match size? cx.P elem, Nat.blt i len with
        | some size, true => some (.ptr n (Nat.add off (Nat.mul i size)), s)
        | _, _ => none
      | _, .lit u => match litOf ev ix with
        | some iv => (pureRun cx.P (Instr.indexAt t u iv)).map fun v => (.lit v, s)
        | none => none
      | _, _ => none
    | _, _ => none)) : Done cx B (do Pure.pure (.value (← Instr.indexAt t (e x) (e ix)))) ρ w s s' v := by
  subst hr
  split at h
  · rename_i a i ha hi
    obtain ⟨k, hk⟩ := asNat_ok hix hi
    have h1 := hx _ ha
    split at h
    · rename_i elem n off len cap hu
      split at h
      · rename_i size hs hb
        cases h
        simp only [conc, Option.map_eq_some_iff] at h1
        obtain ⟨⟨b, c⟩, h2, h3⟩ := h1
        refine Done.same hR ?_ (conc_ptr h2)
        rw [← h3, hk, Sem.run_bind, run_indexAt_slice hu hs (blt_lt hb)]
        rfl
      · cases h
    · rename_i elem n off len cap hu
      split at h
      · rename_i size hs hb
        cases h
        simp only [conc, Option.map_eq_some_iff] at h1
        obtain ⟨⟨b, c⟩, h2, h3⟩ := h1
        refine Done.same hR ?_ (conc_ptr h2)
        rw [← h3, hk, Sem.run_bind, run_indexAt_slice hu hs (blt_lt hb)]
        rfl
      · cases h
    · rename_i len elem n off hu
      split at h
      · rename_i size hs hb
        cases h
        simp only [conc, Option.map_eq_some_iff] at h1
        obtain ⟨⟨b, c⟩, h2, h3⟩ := h1
        refine Done.same hR ?_ (conc_ptr h2)
        rw [← h3, hk, Sem.run_bind, run_indexAt_array hu hs (blt_lt hb)]
        rfl
      · cases h
    · split at h
      · rename_i iv hiv
        simp only [Option.map_eq_some_iff, Prod.mk.injEq] at h
        obtain ⟨c, hc, rfl, rfl⟩ := h
        rw [conc_lit] at h1
        rw [← Option.some.inj h1, litOf_ok hix hiv]
        exact Done.pure hR hc
      · cases h
    · cases h
  · cases h

theorem done_extract (hR : Rel cx B ρ w s) {x : Operand} {i : Nat} (hx : ∀ sv, ev x = some sv → conc ρ sv = some (e x))
    {r : Option (SV × St)} (h : r = some (v, s')) (hr : r = (match ev x with
    | some (.tup l) => (l[i]?).map fun v => (v, s)
    | some (.lit (.tuple vs)) => (vs[i]?).map fun v => (.lit v, s)
    | _ => none)) : Done cx B (do Pure.pure (.value (← Instr.extract (e x) i))) ρ w s s' v := by
  subst hr
  split at h
  · rename_i l ha
    simp only [Option.map_eq_some_iff, Prod.mk.injEq] at h
    obtain ⟨v', hp, rfl, rfl⟩ := h
    have h1 := hx _ ha
    simp only [conc, Option.map_eq_some_iff] at h1
    obtain ⟨vs, h2, h3⟩ := h1
    obtain ⟨u, h4, h5⟩ := concs_get i h2 hp
    refine Done.same hR ?_ h4
    rw [← h3]
    simp [Instr.extract, h5]
  · rename_i vs ha
    simp only [Option.map_eq_some_iff, Prod.mk.injEq] at h
    obtain ⟨v', hp, rfl, rfl⟩ := h
    have h1 := hx _ ha
    rw [conc_lit] at h1
    refine Done.same hR ?_ (conc_lit _ _)
    rw [← Option.some.inj h1]
    simp [Instr.extract, hp]
  · cases h

theorem done_nilCheck (hR : Rel cx B ρ w s) {x : Operand} (hx : ∀ sv, ev x = some sv → conc ρ sv = some (e x)) {d : Option Tmp} {ty : TypeId} {ps : String} {af : Array Edge} {g : Option (Nat × Bool)}
    {r : Option (SV × St)} (h : r = some (v, s')) (hr : r = (match ev x with
    | some (.ptr n off) => some (.ptr n off, s)
    | some (.lit (.pointer (some a))) => some (.lit (.pointer (some a)), s)
    | some (.fn (.func f) caps) => some (.fn (.func f) caps, s)
    | some (.yl n) => some (.yl n, s)
    | _ => none)) : Done cx B (execOp e ⟨d, .nilCheck x, ty, ps, af, g⟩) ρ w s s' v := by
  subst hr
  split at h
  · rename_i n off ha
    cases h
    have h1 := hx _ ha
    refine Done.same hR ?_ h1
    simp only [conc, Option.map_eq_some_iff] at h1
    obtain ⟨p, _, h3⟩ := h1
    simp only [execOp, ← h3]
    rfl
  · rename_i a ha
    cases h
    have h1 := hx _ ha
    refine Done.same hR ?_ h1
    rw [conc_lit] at h1
    simp only [execOp, ← Option.some.inj h1]
    rfl
  · rename_i f caps ha
    cases h
    have h1 := hx _ ha
    refine Done.same hR ?_ h1
    simp only [conc, Option.map_eq_some_iff] at h1
    obtain ⟨p, _, h3⟩ := h1
    simp only [execOp, ← h3]
    rfl
  · rename_i n ha
    cases h
    have h1 := hx _ ha
    refine Done.same hR ?_ h1
    simp only [conc, Option.map_eq_some_iff] at h1
    obtain ⟨p, _, h3⟩ := h1
    simp only [execOp, ← h3]
    rfl
  · cases h
end
end Go.Proofs.YtdkkblkbonjjgabGreatDoor.Ev
