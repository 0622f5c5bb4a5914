/- The reckoner: maps, texts, conversions, append and the builtins. Conditions: those of each lemma. -/
import Derived.Test.YtdkkblkbonjjgabGreatDoorEv2
import Derived.Laws.BytesString
import Derived.Laws.Append
import Derived.Laws.StructEq
import Derived.Lib.SlicesS
set_option linter.unusedSectionVars false
namespace Go.Proofs.YtdkkblkbonjjgabGreatDoor.Ev
open Go
variable [Env]
section
variable {cx : Cx} {B : Nat} {ρ : Nm} {w : World} {s s' : St} {v : SV} {ev : Operand → Option SV} {e : Operand → Value}

theorem loadFrom_len {a : SV} {n : Nat} {l : List SV} (hR : Rel cx B ρ w s) (h : loadFrom cx s a n = some l) : l.length = n := by
  obtain ⟨b, off, vs, _, h2, h3, _⟩ := loadFrom_ok hR h
  rw [← concs_length h2, h3]

/-- The elements of a slice or a string. -/
theorem sliceCells_ok (hR : Rel cx B ρ w s) {size n : Nat} {y : SV} {l : List SV} (h : sliceCells cx s size y = some (n, l)) :
    ∃ cy us, conc ρ y = some cy ∧ concs ρ l = some us ∧ (∀ w' : World, (∀ a, w'.cell? a = w.cell? a) → (Builtin.lenOf cy).run cx.P w' = .ok n w' ∧ (Builtin.firstCells size n cy).run cx.P w' = .ok us.toArray w') := by
  have key : ∀ {nm off len : Nat} {l : List SV}, loadFrom cx s (.ptr nm off) (Nat.mul len size) = some l → ∃ b us, (∃ c, ρ nm = some (b, c)) ∧ concs ρ l = some us ∧ us.length = len * size ∧ ∀ w' : World, (∀ a, w'.cell? a = w.cell? a) → (loadCells ⟨b, off, none⟩ (len * size)).run cx.P w' = .ok us.toArray w' := by
    intro nm off len l h
    obtain ⟨b0, off', us, h1, h2, h3, h4⟩ := loadFrom_ok hR h
    simp only [conc, Option.map_eq_some_iff] at h1
    obtain ⟨⟨b', c⟩, h5, h6⟩ := h1
    cases h6
    have h3' : us.length = len * size := h3
    refine ⟨_, us, ⟨c, h5⟩, h2, h3', fun w' hw => ?_⟩
    rw [← h3']
    exact run_cells fun j v hj => by rw [hw]; exact h4 j v hj
  unfold sliceCells at h
  split at h
  · cases h
    exact ⟨_, [], conc_lit _ _, concs_nil _, fun w' _ => ⟨by simp [Builtin.lenOf], by simp [Builtin.firstCells]⟩⟩
  · rename_i b
    cases h
    refine ⟨_, b.data.toList.map fun c => .int .u8 c.toNat, conc_lit _ _, ?_, fun w' _ => ⟨by simp [Builtin.lenOf], ?_⟩⟩
    · have := concs_lits ρ (b.data.toList.map fun c => Value.int .u8 c.toNat)
      rw [List.map_map] at this
      exact this
    · simp only [Builtin.firstCells, Sem.run_pure]
      congr 1
      apply Array.ext'
      simp
  · rename_i nm off len cap
    split at h
    · rename_i l' hl
      cases h
      obtain ⟨b, us, ⟨c, h1⟩, h2, h3, h4⟩ := key hl
      exact ⟨_, us, conc_sl h1, h2, fun w' hw => ⟨by simp [Builtin.lenOf], by simp only [Builtin.firstCells]; exact h4 w' hw⟩⟩
    · cases h
  · rename_i nm off len k
    split at h
    · rename_i l' hl
      cases h
      obtain ⟨b, us, ⟨c, h1⟩, h2, h3, h4⟩ := key hl
      exact ⟨_, us, conc_vs h1, h2, fun w' hw => ⟨by simp [Builtin.lenOf], by simp only [Builtin.firstCells]; exact h4 w' hw⟩⟩
    · cases h
  · cases h

theorem run_getObj_map {P : Program} {w : World} {r : Nat} {es : Array MapEntry} {c : Nat} (h : w.heap[r]? = some (.map es c)) : (getObj r).run P w = .ok (.map es c) w := by
  simp [getObj, Sem.run, h]
theorem run_setObj_map {P : Program} {w : World} {r : Nat} {es : Array MapEntry} {c : Nat} (h : w.heap[r]? = some (.map es c)) (o : Obj) : (setObj r o).run P w = .ok () { w with heap := w.heap.setIfInBounds r o } := by
  simp [setObj, Sem.run, h]

/-- A key of a type whose keys are compared at once. -/
inductive KeyOf : TypeDesc → Value → Prop
  | int (k : IntKind) (n : Int) : KeyOf (.int k) (.int k n)
  | str (b : ByteArray) : KeyOf .string (.string b)
  | bool (b : Bool) : KeyOf .bool (.bool b)

/-- A key that the reckoner takes. -/
inductive KeyOK (P : Program) (t : TypeId) (d : TypeDesc) (k : Value) : Prop
  | now (h : KeyOf d k) : KeyOK P t d k
  | agg (h : isAggV k = true) (hn : ∀ k', Instr.sameNow d k k' = none) (hc : ∀ em w, (Instr.checkKey em 10000 t k).run P w = .ok () w) : KeyOK P t d k

theorem sameNow_struct {fs : Array Field} {k k' : Value} : Instr.sameNow (.struct fs) k k' = none := rfl
theorem sameNow_array {n : Nat} {e : TypeId} {k k' : Value} : Instr.sameNow (.array n e) k k' = none := rfl

theorem keyFits_ok {P : Program} {t : TypeId} {k : Value} (h : keyFits P t k = true) : ∃ d, P.underlying t = some d ∧ KeyOK P t d k := by
  unfold keyFits at h
  split at h
  · rename_i hu
    have := of_decide_eq_true h
    subst this
    exact ⟨_, hu, .now (.int _ _)⟩
  · rename_i hu; exact ⟨_, hu, .now (.str _)⟩
  · rename_i hu; exact ⟨_, hu, .now (.bool _)⟩
  · rename_i hu
    split at h
    · rename_i h1 h2
      exact ⟨_, hu, .agg rfl (fun _ => rfl) fun em w => match em with | true => pureRun_ok _ _ _ h1 w | false => pureRun_ok _ _ _ h2 w⟩
    · cases h
  · rename_i hu
    split at h
    · rename_i h1 h2
      exact ⟨_, hu, .agg rfl (fun _ => rfl) fun em w => match em with | true => pureRun_ok _ _ _ h1 w | false => pureRun_ok _ _ _ h2 w⟩
    · cases h
  · cases h

theorem run_checkKey {P : Program} {w : World} {t : TypeId} {d : TypeDesc} {k : Value} (hu : P.underlying t = some d) (hk : KeyOK P t d k) (em : Bool) : (Instr.checkKey em 10000 t k).run P w = .ok () w := by
  cases hk with
  | now hk =>
    rw [show (10000 : Nat) = 9999 + 1 from rfl, Instr.checkKey]
    simp only [Sem.run_bind, underlying_ok hu, Result.andThen_ok]
    cases hk <;> rfl
  | agg h hn hc => exact hc em w

theorem sameNow_ok {d : TypeDesc} {k k' : Value} (hk : KeyOf d k) : Instr.sameNow d k k' = sameKey k k' := by
  cases hk <;> cases k' <;> simp only [Instr.sameNow, sameKey]
  rename_i k n k' n'
  by_cases h : k = k'
  · simp only [h, if_true, decide_true]
    rfl
  · simp [h]

theorem notAgg {d : TypeDesc} {k : Value} (hk : KeyOf d k) : isAggV k = false := by cases hk <;> rfl

theorem sameBits_ok {d : TypeDesc} {k k' : Value} (hk : KeyOf d k) (h : sameKey k k' = some true) : Instr.sameBits 10000 k' k = true := by
  rw [show (10000 : Nat) = 9999 + 1 from rfl]
  cases hk with
  | int j n =>
    cases k' with
    | int j' n' =>
      simp only [sameKey] at h
      split at h
      · rename_i hd
        have h1 := of_decide_eq_true hd
        simp only [Option.some.injEq] at h
        have h2 := of_decide_eq_true h
        subst h1; subst h2
        simp [Instr.sameBits]
      · cases h
    | _ => simp [sameKey] at h
  | str b =>
    cases k' with
    | string b' =>
      simp only [sameKey, Option.some.injEq] at h
      have := bytes_beq h
      subst this
      simp only [Instr.sameBits]
      exact h
    | _ => simp [sameKey] at h
  | bool b =>
    cases k' with
    | bool b' =>
      simp only [sameKey, Option.some.injEq, beq_iff_eq] at h
      subst h
      simp [Instr.sameBits]
    | _ => simp [sameKey] at h

theorem same_agg {P : Program} {t : TypeId} {k k' : Value} {b : Bool} (ha : isAggV k = true) (h : sameKeyP P t k k' = some b) : (∀ w, (Op.equal t k k').run P w = .ok b w) ∧ (b = true → Instr.sameBits 10000 k' k = true) := by
  unfold sameKeyP at h
  rw [ha] at h
  dsimp only at h
  split at h
  · rename_i hq
    split at h
    · rename_i hb
      cases h
      exact ⟨fun w => pureRun_ok _ _ _ hq w, fun _ => hb⟩
    · cases h
  · rename_i hq
    refine ⟨fun w => pureRun_ok _ _ _ h w, fun e => ?_⟩
    subst e
    exact absurd h hq

theorem same_now {P : Program} {t : TypeId} {d : TypeDesc} {k k' : Value} {b : Bool} (hk : KeyOf d k) (h : sameKeyP P t k k' = some b) : Instr.sameNow d k k' = some b ∧ (b = true → Instr.sameBits 10000 k' k = true) := by
  unfold sameKeyP at h
  rw [notAgg hk] at h
  dsimp only at h
  exact ⟨by rw [sameNow_ok hk]; exact h, fun e => by subst e; exact sameBits_ok hk h⟩

/-- What a search for a key comes to: nothing, or an entry's number and value. -/
def Found (P : Program) (t : TypeId) (d : TypeDesc) (k : Value) (l : List MapEntry) (i : Nat) (r : Option (Nat × Value)) : Prop :=
  (KeyOf d k → Instr.findNow d k l i = some r) ∧ (isAggV k = true → ∀ w, (Instr.findAsking t k l i).run P w = .ok r w)

theorem Found.nil {P : Program} {t : TypeId} {d : TypeDesc} {k : Value} (i : Nat) : Found P t d k [] i none :=
  ⟨fun _ => rfl, fun _ _ => rfl⟩
theorem Found.hit {P : Program} {t : TypeId} {d : TypeDesc} {k : Value} {me : MapEntry} {l : List MapEntry} {i : Nat} (h : sameKeyP P t k me.key = some true) : Found P t d k (me :: l) i (some (i, me.val)) :=
  ⟨fun hk => by simp only [Instr.findNow, (same_now hk h).1], fun ha w => by simp only [Instr.findAsking, Sem.run_bind, (same_agg ha h).1 w, Result.andThen_ok, if_true, Sem.run_pure]⟩
theorem Found.miss {P : Program} {t : TypeId} {d : TypeDesc} {k : Value} {me : MapEntry} {l : List MapEntry} {i : Nat} {r : Option (Nat × Value)} (h : sameKeyP P t k me.key = some false) (hr : Found P t d k l (i + 1) r) : Found P t d k (me :: l) i r :=
  ⟨fun hk => by simp only [Instr.findNow, (same_now hk h).1]; exact hr.1 hk, fun ha w => by simp only [Instr.findAsking, Sem.run_bind, (same_agg ha h).1 w, Result.andThen_ok, Bool.false_eq_true, if_false]; exact hr.2 ha w⟩

theorem Found.run {P : Program} {t : TypeId} {d : TypeDesc} {k : Value} {l : List MapEntry} {r : Option (Nat × Value)} (hu : P.underlying t = some d) (hk : KeyOK P t d k) (h : Found P t d k l 0 r) (w : World) : (Instr.findKey t k l).run P w = .ok r w := by
  cases hk with
  | now hk => simp [Instr.findKey, underlying_ok hu, h.1 hk]
  | agg ha hn hc =>
    have h2 := h.2 ha w
    cases l with
    | nil =>
      have hr : r = none := by
        simp only [Instr.findAsking, Sem.run_pure] at h2
        cases h2
        rfl
      subst hr
      simp [Instr.findKey, underlying_ok hu, Instr.findNow]
    | cons me l =>
      simp only [Instr.findKey, Sem.run_bind, underlying_ok hu, Result.andThen_ok, Instr.findNow, hn]
      exact h2

/-- The key of an entry is the one. -/
def hit (P : Program) (t : TypeId) (k : Value) (p : Value × Value) : Bool := match sameKeyP P t k p.1 with
  | some true => true
  | _ => false
def decided (P : Program) (t : TypeId) (k : Value) (p : Value × Value) : Prop := ∃ b, sameKeyP P t k p.1 = some b

theorem hit_true {P : Program} {t : TypeId} {k : Value} {p : Value × Value} (h : hit P t k p = true) : sameKeyP P t k p.1 = some true := by
  unfold hit at h
  split at h
  · assumption
  · cases h
theorem hit_false {P : Program} {t : TypeId} {k : Value} {p : Value × Value} (hd : decided P t k p) (h : hit P t k p = false) : sameKeyP P t k p.1 = some false := by
  obtain ⟨b, hb⟩ := hd
  cases b
  · exact hb
  · unfold hit at h
    rw [hb] at h
    cases h
theorem hit_of {P : Program} {t : TypeId} {k : Value} {p : Value × Value} {b : Bool} (h : sameKeyP P t k p.1 = some b) : hit P t k p = b := by
  unfold hit
  rw [h]
  cases b <;> rfl

theorem findKey_spec {P : Program} {t : TypeId} {k : Value} : ∀ {es : List (Value × SV)} {l : List (Value × Value)} {r : Option SV}, findKey P t k es = some r → kvs ρ es = some l →
    (∀ p ∈ l, decided P t k p) ∧ ((r = none ∧ l.countP (hit P t k) = 0) ∨ ∃ sv cv, r = some sv ∧ conc ρ sv = some cv ∧ l.countP (hit P t k) = 1 ∧ ∀ p ∈ l, hit P t k p = true → p.2 = cv)
  | [], l, r, h, he => by
    simp only [findKey, Option.some.injEq] at h
    simp only [kvs, Option.some.injEq] at he
    subst h; subst he
    exact ⟨fun p hp => (List.not_mem_nil hp).elim, .inl ⟨rfl, rfl⟩⟩
  | (k', v') :: es, l, r, h, he => by
    obtain ⟨u, l', h1, h2, rfl⟩ := kvs_cons_iff.1 he
    simp only [findKey] at h
    split at h
    · rename_i hs hf
      cases h
      obtain ⟨g1, g2⟩ := findKey_spec hf h2
      have hh : hit P t k (k', u) = true := hit_of hs
      rcases g2 with ⟨_, g2⟩ | ⟨sv, cv, g2, _⟩
      · refine ⟨fun p hp => ?_, .inr ⟨v', u, rfl, h1, by rw [List.countP_cons, g2, hh]; rfl, fun p hp hpt => ?_⟩⟩
        · rcases List.mem_cons.1 hp with rfl | hp
          · exact ⟨true, hs⟩
          · exact g1 p hp
        · rcases List.mem_cons.1 hp with rfl | hp
          · rfl
          · exact absurd hpt (List.countP_eq_zero.1 g2 p hp)
      · cases g2
    · rename_i r' hs hf
      cases h
      obtain ⟨g1, g2⟩ := findKey_spec hf h2
      have hh : hit P t k (k', u) = false := hit_of hs
      refine ⟨fun p hp => ?_, ?_⟩
      · rcases List.mem_cons.1 hp with rfl | hp
        · exact ⟨false, hs⟩
        · exact g1 p hp
      · rcases g2 with ⟨g2, g3⟩ | ⟨sv, cv, g2, g3, g4, g5⟩
        · exact .inl ⟨g2, by rw [List.countP_cons, g3, hh]; rfl⟩
        · refine .inr ⟨sv, cv, g2, g3, by rw [List.countP_cons, g4, hh]; rfl, fun p hp hpt => ?_⟩
          rcases List.mem_cons.1 hp with rfl | hp
          · rw [hh] at hpt; cases hpt
          · exact g5 p hp hpt
    · cases h

theorem found_none {P : Program} {t : TypeId} {d : TypeDesc} {k : Value} : ∀ {lst : List MapEntry} (i : Nat), (∀ p ∈ lst.map kv, decided P t k p) → (lst.map kv).countP (hit P t k) = 0 → Found P t d k lst i none
  | [], i, _, _ => .nil i
  | e :: lst, i, hd, hc => by
    rw [List.map_cons, List.countP_cons] at hc
    have hh : hit P t k (kv e) = false := by
      cases h : hit P t k (kv e)
      · rfl
      · rw [h] at hc; simp at hc
    exact .miss (hit_false (hd _ (List.mem_map_of_mem (List.mem_cons_self ..))) hh) (found_none (i + 1) (fun p hp => hd p (by rw [List.map_cons]; exact List.mem_cons_of_mem _ hp)) (by omega))

theorem found_some {P : Program} {t : TypeId} {d : TypeDesc} {k : Value} : ∀ {lst : List MapEntry} (i : Nat), (∀ p ∈ lst.map kv, decided P t k p) → (lst.map kv).countP (hit P t k) = 1 →
    ∃ j e, lst[j]? = some e ∧ hit P t k (kv e) = true ∧ Found P t d k lst i (some (i + j, e.val)) ∧ ∀ cv, (lst.modify j fun e => { e with key := k, val := cv }).map kv = (lst.map kv).map fun p => if hit P t k p then (k, cv) else p
  | [], i, _, hc => by simp at hc
  | e :: lst, i, hd, hc => by
    rw [List.map_cons, List.countP_cons] at hc
    cases hh : hit P t k (kv e)
    · rw [hh] at hc
      obtain ⟨j, e', h1, h2, h3, h4⟩ := found_some (d := d) (i + 1) (fun p hp => hd p (by rw [List.map_cons]; exact List.mem_cons_of_mem _ hp)) (by simpa using hc)
      refine ⟨j + 1, e', by simpa using h1, h2, ?_, fun cv => ?_⟩
      · rw [show i + (j + 1) = i + 1 + j by omega]
        exact .miss (hit_false (hd _ (List.mem_map_of_mem (List.mem_cons_self ..))) hh) h3
      · rw [List.modify_succ_cons, List.map_cons, List.map_cons, List.map_cons, h4 cv, hh]
        rfl
    · rw [hh] at hc
      have hc0 : (lst.map kv).countP (hit P t k) = 0 := by simp at hc ⊢; exact hc
      refine ⟨0, e, rfl, hh, .hit (hit_true hh), fun cv => ?_⟩
      have h0 : (lst.map kv).map (fun p => if hit P t k p then (k, cv) else p) = lst.map kv := by
        conv => rhs; rw [← List.map_id (lst.map kv)]
        refine List.map_congr_left fun p hp => ?_
        rw [if_neg (List.countP_eq_zero.1 hc0 p hp)]
        rfl
      rw [List.modify_zero_cons, List.map_cons, List.map_cons, List.map_cons, h0, hh]
      rfl

theorem putKey_kvs {P : Program} {t : TypeId} {k : Value} {cv : Value} (hv : conc ρ v = some cv) : ∀ {es : List (Value × SV)} {l : List (Value × Value)}, kvs ρ es = some l → l.countP (hit P t k) = 1 → kvs ρ (putKey P t k v es) = some (l.map fun p => if hit P t k p then (k, cv) else p)
  | [], l, h, hc => by simp only [kvs, Option.some.injEq] at h; subst h; simp at hc
  | (k', v') :: es, l, h, hc => by
    obtain ⟨u, r, h1, h2, rfl⟩ := kvs_cons_iff.1 h
    rw [List.countP_cons] at hc
    simp only [putKey]
    cases hh : hit P t k (k', u)
    · rw [hh] at hc
      have ih := putKey_kvs hv h2 (by simpa using hc)
      split
      · rename_i hs
        rw [hit_of (p := (k', u)) hs] at hh
        cases hh
      · rw [List.map_cons, hh]
        exact kvs_cons_iff.2 ⟨u, _, h1, ih, rfl⟩
    · rw [hh] at hc
      have hs := hit_true hh
      have hc0 : r.countP (hit P t k) = 0 := by simp at hc ⊢; exact hc
      have h0 : r.map (fun p => if hit P t k p then (k, cv) else p) = r := by
        conv => rhs; rw [← List.map_id r]
        refine List.map_congr_left fun p hp => ?_
        rw [if_neg (List.countP_eq_zero.1 hc0 p hp)]
        rfl
      dsimp only at hs
      rw [hs]
      dsimp only
      rw [List.map_cons, h0, hh]
      exact kvs_cons_iff.2 ⟨cv, r, hv, h2, rfl⟩

/-- A search in any order. -/
theorem findKey_ok {P : Program} {t : TypeId} {d : TypeDesc} {k : Value} {es : List (Value × SV)} {l : List (Value × Value)} {r : Option SV} {lst : List MapEntry} (h : findKey P t k es = some r) (he : kvs ρ es = some l) (hp : (lst.map kv).Perm l) :
    (r = none ∧ Found P t d k lst 0 none) ∨ ∃ sv cv j, r = some sv ∧ conc ρ sv = some cv ∧ Found P t d k lst 0 (some (j, cv)) := by
  obtain ⟨h1, h2⟩ := findKey_spec h he
  have hd : ∀ p ∈ lst.map kv, decided P t k p := fun p hm => h1 p (hp.mem_iff.1 hm)
  rcases h2 with ⟨h2, h3⟩ | ⟨sv, cv, h2, h3, h4, h5⟩
  · exact .inl ⟨h2, found_none 0 hd (by rw [hp.countP_eq]; exact h3)⟩
  · obtain ⟨j, e, g1, g2, g3, _⟩ := found_some (d := d) 0 hd (by rw [hp.countP_eq]; exact h4)
    have : e.val = cv := h5 (kv e) (hp.mem_iff.1 (List.mem_map_of_mem (List.mem_of_getElem? g1))) g2
    rw [this] at g3
    exact .inr ⟨sv, cv, 0 + j, h2, h3, g3⟩

theorem done_lookup (hR : Rel cx B ρ w s) {t : TypeId} {x ix : Operand} {ok : Bool} (hx : ∀ sv, ev x = some sv → conc ρ sv = some (e x)) (hix : ∀ sv, ev ix = some sv → conc ρ sv = some (e ix))
    {r : Option (SV × St)} (h : r = some (v, s')) (hr : r = (match cx.P.underlying t, ev x, litOf ev ix with
    | some (.map key elem), some m, some k => match keyFits cx.P key k, (match m with | .mp n => (match s.see n with | some (.map _ es) => some es | _ => none) | .lit (.map none) => some [] | _ => none) with
      | true, some es => match findKey cx.P key k es with
        | some (some v) => some ((match ok with | true => .tup [v, .lit (.bool true)] | false => v), s)
        | some none => match (cx.P.info? elem).bind (·.zero) with
          | some z => some ((match ok with | true => .tup [.lit z, .lit (.bool false)] | false => .lit z), s)
          | none => none
        | none => none
      | _, _ => none
    | _, _, _ => none)) : Done cx B (do Pure.pure (.value (← Instr.lookup t (e x) (e ix) ok))) ρ w s s' v := by
  subst hr
  split at h
  · rename_i key elem m k hu hm hk
    have h0 := hx _ hm
    rw [litOf_ok hix hk]
    split at h
    · rename_i es hkf hes
      obtain ⟨d, hd, hK⟩ := keyFits_ok hkf
      have hmap : ∃ (l : List (Value × Value)) (lst : List MapEntry), kvs ρ es = some l ∧ (List.map kv lst).Perm l ∧ (e x = .map none ∧ lst = [] ∨ ∃ b c, e x = .map (some b) ∧ w.heap[b]? = some (.map lst.toArray c)) := by
        split at hes
        · rename_i n
          split at hes
          · rename_i kt' es' hs
            cases hes
            obtain ⟨b, cap, ob, h1, _, h3, l, lst, clk, h4, rfl, h5⟩ := hR.obj n _ hs
            simp only [conc, h1, Option.map_some, Option.some.injEq] at h0
            exact ⟨l, lst, h4, h5, .inr ⟨b, clk, h0.symm, h3⟩⟩
          · cases hes
        · cases hes
          rw [conc_lit] at h0
          exact ⟨[], [], rfl, .refl _, .inl ⟨(Option.some.inj h0).symm, rfl⟩⟩
        · cases hes
      obtain ⟨l, lst, hl, hperm, hrun⟩ := hmap
      split at h
      · rename_i sv hf
        cases h
        rcases findKey_ok (d := d) hf hl hperm with ⟨h1, _⟩ | ⟨sv', cv, j, h1, h2, h3⟩
        · cases h1
        · cases h1
          have hv : conc ρ (match ok with | true => .tup [sv, .lit (.bool true)] | false => sv) = some (if ok then .tuple #[cv, .bool true] else cv) := by
            cases ok
            · exact h2
            · exact conc_tup (concs_cons h2 (concs_cons (conc_lit _ _) (concs_nil _)))
          refine Done.same hR ?_ hv
          have hf' : ∀ w, (Instr.findKey key k lst.toArray.toList).run cx.P w = .ok _ w := fun w => h3.run hd hK w
          rcases hrun with ⟨e1, rfl⟩ | ⟨b, c, e1, e2⟩
          · simp only [Instr.lookup, e1, Sem.run_bind, underlying_ok hu, Result.andThen_ok, run_checkKey hd hK, hf', Sem.run_pure]
          · simp only [Instr.lookup, e1, Sem.run_bind, underlying_ok hu, Result.andThen_ok, run_getObj_map e2, run_checkKey hd hK, hf', Sem.run_pure]
      · rename_i hf
        split at h
        · rename_i z hz
          cases h
          rcases findKey_ok (d := d) hf hl hperm with ⟨_, h3⟩ | ⟨sv', cv, j, h1, _, _⟩
          · have hv : conc ρ (match ok with | true => .tup [.lit z, .lit (.bool false)] | false => .lit z) = some (if ok then .tuple #[z, .bool false] else z) := by
              cases ok
              · exact conc_lit _ _
              · exact conc_tup (concs_cons (conc_lit _ _) (concs_cons (conc_lit _ _) (concs_nil _)))
            refine Done.same hR ?_ hv
            have hzero : (zeroValue elem).run cx.P w = .ok z w := by
              cases hi : cx.P.info? elem with
              | none => simp [hi] at hz
              | some i =>
                simp [hi] at hz
                simp [zeroValue, typeInfo, hi, hz]
            have hf' : ∀ w, (Instr.findKey key k lst.toArray.toList).run cx.P w = .ok _ w := fun w => h3.run hd hK w
            rcases hrun with ⟨e1, rfl⟩ | ⟨b, c, e1, e2⟩
            · simp only [Instr.lookup, e1, Sem.run_bind, underlying_ok hu, Result.andThen_ok, run_checkKey hd hK, hf', Sem.run_pure, hzero]
            · simp only [Instr.lookup, e1, Sem.run_bind, underlying_ok hu, Result.andThen_ok, run_getObj_map e2, run_checkKey hd hK, hf', Sem.run_pure, hzero]
          · cases h1
        · cases h
      · cases h
    · cases h
  · cases h
end
end Go.Proofs.YtdkkblkbonjjgabGreatDoor.Ev

namespace Go.Proofs.YtdkkblkbonjjgabGreatDoor.Ev
open Go
variable [Env]
section
variable {cx : Cx} {B : Nat} {ρ : Nm} {w : World} {s s' : St} {v : SV} {ev : Operand → Option SV} {e : Operand → Value}

theorem done_mapUpdate (hR : Rel cx B ρ w s) {t : TypeId} {m k x : Operand} (hm : ∀ sv, ev m = some sv → conc ρ sv = some (e m)) (hk : ∀ sv, ev k = some sv → conc ρ sv = some (e k)) (hx : ∀ sv, ev x = some sv → conc ρ sv = some (e x))
    {r : Option (SV × St)} (h : r = some (v, s')) (hr : r = (match cx.P.underlying t, ev m, litOf ev k, ev x with
    | some (.map key _), some (.mp n), some kv, some v => match keyFits cx.P key kv, s.see n with
      | true, some (.map kt es) => match setKey cx.P key kv v es with
        | some es' => some (.lit undef, s.set n (.map kt es'))
        | none => none
      | _, _ => none
    | _, _, _, _ => none)) : Done cx B (do Instr.mapUpdate t (e m) (e k) (e x); Pure.pure .skip) ρ w s s' v := by
  subst hr
  split at h
  · rename_i key elem n kval u hu hm' hk' hx'
    have h0 := hm _ hm'
    have hxv := hx _ hx'
    rw [litOf_ok hk hk']
    split at h
    · rename_i kt es hkf hs
      obtain ⟨d, hd, hK⟩ := keyFits_ok hkf
      split at h
      · rename_i es' hsk
        cases h
        obtain ⟨b, cap, ob, h1, _, h3, l, lst, clk, h4, rfl, h5⟩ := hR.obj n _ hs
        simp only [conc, h1, Option.map_some, Option.some.injEq] at h0
        have hlt := heap_lt h3
        unfold setKey at hsk
        split at hsk
        · rename_i sv hfk
          cases hsk
          obtain ⟨q1, q2⟩ := findKey_spec hfk h4
          rcases q2 with ⟨q2, _⟩ | ⟨sv', cv, _, _, q4, _⟩
          · cases q2
          have hdec : ∀ p ∈ lst.map kv, decided cx.P key kval p := fun p hp => q1 p (h5.mem_iff.1 hp)
          obtain ⟨j, me, e1, e2, e3, e4⟩ := found_some (d := d) 0 hdec (by rw [h5.countP_eq]; exact q4)
          rw [Nat.zero_add] at e3
          have hset := set_ok hR hs h1 (ob := .map (lst.modify j fun e' => { e' with key := kval, val := e x }).toArray clk) (Upd.mk' hlt (d := w.drawn)) (.map kt (putKey cx.P key kval u es))
            ⟨_, _, clk, putKey_kvs hxv h4 q4, rfl, by rw [e4 (e x)]; exact h5.map _⟩
          refine ⟨ρ, _, undef, .inr ⟨?_, rfl⟩, conc_lit _ _, hset.1, hset.2⟩
          have hf : (Instr.findKey key kval lst.toArray.toList).run cx.P w = .ok (some (j, me.val)) w := e3.run hd hK w
          have hkey : ((lst.toArray[j]?).map (·.key)).getD kval = me.key := by simp [e1]
          have hbits : Instr.sameBits 10000 me.key kval = true := by
            have hs' := hit_true e2
            cases hK with
            | now hk => exact (same_now hk hs').2 rfl
            | agg ha _ _ => exact (same_agg ha hs').2 rfl
          simp only [Instr.mapUpdate, Sem.run_bind, underlying_ok hu, Result.andThen_ok, ← h0, run_getObj_map h3, run_checkKey hd hK, hf, Instr.keyThatStays, hkey, hbits, if_true, Sem.run_pure, run_setObj_map h3]
          congr 4
          apply Array.ext'
          simp
        · rename_i hfk
          cases hsk
          obtain ⟨q1, q2⟩ := findKey_spec hfk h4
          rcases q2 with ⟨_, q3⟩ | ⟨sv', cv, q2, _⟩
          · have hdec : ∀ p ∈ lst.map kv, decided cx.P key kval p := fun p hp => q1 p (h5.mem_iff.1 hp)
            have e1 := found_none (d := d) 0 hdec (by rw [h5.countP_eq]; exact q3)
            have hset := set_ok hR hs h1 (ob := .map (lst ++ [({ key := kval, val := e x, born := clk } : MapEntry)]).toArray (clk + 1)) (Upd.mk' hlt (d := w.drawn)) (.map kt (es ++ [(kval, u)]))
              ⟨_, _, _, kvs_append h4 (kvs_cons_iff.2 ⟨e x, [], hxv, rfl, rfl⟩), rfl, by rw [List.map_append]; exact h5.append_right _⟩
            refine ⟨ρ, _, undef, .inr ⟨?_, rfl⟩, conc_lit _ _, hset.1, hset.2⟩
            have hf : (Instr.findKey key kval lst.toArray.toList).run cx.P w = .ok none w := e1.run hd hK w
            simp only [Instr.mapUpdate, Sem.run_bind, underlying_ok hu, Result.andThen_ok, ← h0, run_getObj_map h3, run_checkKey hd hK, hf, run_setObj_map h3]
            simp
          · cases q2
        · cases hsk
      · cases h
    · cases h
  · cases h

theorem done_range (hR : Rel cx B ρ w s) (hf : Fresh ρ s.next s'.next) {t : TypeId} {x : Operand} (hx : ∀ sv, ev x = some sv → conc ρ sv = some (e x))
    {r : Option (SV × St)} (h : r = some (v, s')) (hr : r = (match cx.P.underlying t, ev x with
    | some .string, some (.lit (.string b)) => some (.ptr s.next 0, s.new (.siter b 0))
    | _, _ => none)) : Done cx B (do Pure.pure (.value (← Instr.range t (e x)))) ρ w s s' v := by
  subst hr
  split at h
  · rename_i b hu ha
    cases h
    have h1 := hx _ ha
    rw [conc_lit] at h1
    obtain ⟨h2, h3⟩ := new_ok hR (hf s.next (Nat.le_refl _) (by show s.next < s.next + 1; omega)) (ob := .stringIter b 0) (Psh.mk' (d := w.drawn)) (.siter b 0) 0 rfl
    refine ⟨_, _, _, .inl ?_, conc_ptr (Nm.put_at _ _ _), h2, h3⟩
    rw [← Option.some.inj h1]
    simp [Instr.range, underlying_ok hu]
  · cases h

theorem run_getObj_siter {P : Program} {w : World} {r : Nat} {b : ByteArray} {p : Nat} (h : w.heap[r]? = some (.stringIter b p)) : (getObj r).run P w = .ok (.stringIter b p) w := by
  simp [getObj, Sem.run, h]
theorem run_setObj_siter {P : Program} {w : World} {r : Nat} {b : ByteArray} {p : Nat} (h : w.heap[r]? = some (.stringIter b p)) (o : Obj) : (setObj r o).run P w = .ok () { w with heap := w.heap.setIfInBounds r o } := by
  simp [setObj, Sem.run, h]

theorem done_next (hR : Rel cx B ρ w s) {x : Operand} {iss : Bool} {ty : TypeId} (hx : ∀ sv, ev x = some sv → conc ρ sv = some (e x))
    {r : Option (SV × St)} (h : r = some (v, s')) (hr : r = (match iss, ev x with
    | true, some (.ptr n 0) => match s.see n with
      | some (.siter b pos) => match decide (pos < b.size) with
        | true => match Utf8.decode b pos with
          | (c, width) => some (.lit (.tuple #[.bool true, goInt pos, .int .i32 c]), s.set n (.siter b (Nat.add pos width)))
        | false => some (.lit (.tuple #[.bool false]), s)
      | _ => none
    | _, _ => none)) : Done cx B (do Pure.pure (.value (← Instr.next (e x) iss ty))) ρ w s s' v := by
  subst hr
  split at h
  · rename_i n ha
    have h1 := hx _ ha
    split at h
    · rename_i b pos hs
      obtain ⟨bl, cap, ob, h2, _, h3, rfl⟩ := hR.obj n _ hs
      rw [conc_ptr h2] at h1
      split at h
      · rename_i hd
        have hlt := of_decide_eq_true hd
        have hdec : ∃ cw, Utf8.decode b pos = cw := ⟨_, rfl⟩
        obtain ⟨⟨c, width⟩, hcw⟩ := hdec
        rw [hcw] at h
        cases h
        have hset := set_ok hR hs h2 (ob := .stringIter b (pos + width)) (Upd.mk' (heap_lt h3) (d := w.drawn)) (.siter b (Nat.add pos width)) rfl
        refine ⟨ρ, _, _, .inl ?_, conc_lit _ _, hset.1, hset.2⟩
        rw [← Option.some.inj h1]
        simp only [Instr.next, Sem.run_bind, run_getObj_siter h3, Result.andThen_ok]
        rw [if_pos hlt, hcw]
        simp only [Sem.run_bind, run_setObj_siter h3, Result.andThen_ok, Sem.run_pure]
      · rename_i hd
        have hlt := of_decide_eq_false hd
        cases h
        refine Done.same hR ?_ (conc_lit _ _)
        rw [← Option.some.inj h1]
        simp [Instr.next, run_getObj_siter h3, hlt]
    · cases h
  · cases h

theorem bytes_ok : ∀ {l : List SV} {bs : List UInt8} {us : List Value}, bytesOf? l = some bs → concs ρ l = some us → ∃ ns : List Int, us = ns.map (Value.int .u8) ∧ bs = ns.map fun n => UInt8.ofNat n.toNat
  | [], bs, us, h, hu => by
    simp only [bytesOf?, Option.some.injEq] at h
    simp only [concs, Option.some.injEq] at hu
    subst h; subst hu
    exact ⟨[], rfl, rfl⟩
  | x :: l, bs, us, h, hu => by
    obtain ⟨u, us', h1, h2, rfl⟩ := concs_cons_iff.1 hu
    simp only [bytesOf?] at h
    split at h
    · rename_i n bs' hb
      cases h
      obtain ⟨ns, rfl, rfl⟩ := bytes_ok hb h2
      rw [conc_lit] at h1
      cases h1
      exact ⟨n :: ns, rfl, rfl⟩
    · cases h

theorem push_bytes : ∀ (ns : List Int) (b : List UInt8), ns.foldl (fun (r : ByteArray) n => r.push (UInt8.ofNat n.toNat)) ⟨b.toArray⟩ = ⟨(b ++ ns.map fun n => UInt8.ofNat n.toNat).toArray⟩
  | [], b => by simp
  | n :: ns, b => by
    simp only [List.foldl_cons, List.map_cons]
    have : (ByteArray.mk b.toArray).push (UInt8.ofNat n.toNat) = ⟨(b ++ [UInt8.ofNat n.toNat]).toArray⟩ := by simp [ByteArray.push]
    rw [this, push_bytes ns]
    simp

theorem push_modify (xs : Array Obj) (x : Obj) (f : Obj → Obj) : (xs.push x).modify xs.size f = xs.push (f x) := by
  apply Array.ext_getElem?
  intro i
  rw [Array.getElem?_modify, Array.getElem?_push, Array.getElem?_push]
  by_cases h : xs.size = i
  · subst h; simp
  · rw [if_neg h]
    split <;> simp_all

theorem freeze_heap (w : World) (a : Array Value) (el : TypeId) (n : Nat) : ({ w with heap := w.heap.push (.cells a el) } : World).freeze ⟨w.heap.size, n, none⟩ 1 = { w with heap := w.heap.push (.cells a el (n, n + 1)) } := by
  unfold World.freeze
  rw [if_neg (by omega), push_modify]
  rfl

theorem done_convert (hR : Rel cx B ρ w s) (hf : Fresh ρ s.next s'.next) {src dst : TypeId} {x : Operand} (hx : ∀ sv, ev x = some sv → conc ρ sv = some (e x))
    {r : Option (SV × St)} (h : r = some (v, s')) (hr : r = (match ev x with
    | some a => match a.toValue? with
      | some u => match cx.P.underlying src, cx.P.underlying dst, u with
        | some _, some (.slice e), .string b => match cx.P.underlying e with
          | some (.int .u8) => some (.vs s.next 0 b.size 0, s.new (.vec (b.data.toList.map fun c => .lit (.int .u8 c.toNat)) e 1))
          | _ => none
        | _, _, _ => (pureRun cx.P (Go.convert src dst u)).map fun v => (.lit v, s)
      | none => match cx.P.underlying src, cx.P.underlying dst with
        | some (.slice e), some .string => match cx.P.underlying e, sliceCells cx s 1 a with
          | some (.int .u8), some (_, l) => match bytesOf? l with
            | some bs => some (.lit (.string ⟨bs.toArray⟩), s)
            | none => none
          | _, _ => none
        | some (.int _), some (.int k') => match a with
          | .sint _ e => some (pin cx.facts k' (.conv k' e), s)
          | _ => none
        | some .string, some .string => match a with
          | .sstr e => some (.sstr e, s)
          | _ => none
        | some (.pointer t), some .unsafePointer => match a with
          | .ptr n off => match s.cellsAt n, size? cx.P t with
            | some c, some (_ + 1) => match Nat.blt off c.length with
              | true => some (.ptr n off, s)
              | false => none
            | _, _ => none
          | _ => none
        | some .unsafePointer, some (.pointer u) => match a with
          | .ptr n off => match s.see n, cx.P.info? u with
            | some (.cells c e), some _ => match liesAt cx.P cx.P.depth e (c.length / cx.P.cellsOf e) off u 1 with
              | true => some (.ptr n off, s)
              | false => none
            | _, _ => none
          | _ => none
        | _, _ => none
    | none => none)) : Done cx B (do Pure.pure (.value (← Go.convert src dst (e x)))) ρ w s s' v := by
  subst hr
  split at h
  · rename_i a ha
    have h1 := hx _ ha
    split at h
    · rename_i u hu
      have h2 := toValue_conc ρ a u hu
      rw [h1] at h2
      have e1 := Option.some.inj h2
      split at h
      · rename_i d el b hsrc hdst
        split at h
        · rename_i hel
          cases h
          have hfr := hf s.next (Nat.le_refl _) (by show s.next < s.next + 1; omega)
          let cap := (Question.appendCap b.size 0 el).cut (w.tape w.drawn (.appendCap b.size 0 el))
          have hcap : b.size ≤ cap := Nat.le_add_right _ _
          let us : List Value := b.data.toList.map fun c => .int .u8 c.toNat
          have hus : us.length = b.size := by simp [us]
          let rest : List Value := List.replicate (cap - b.size) (.int .u8 0)
          have hw : (Conv.stringToBytes el b).run cx.P w = .ok (.slice (some ⟨w.heap.size, 0, none⟩) b.size cap) { w with heap := w.heap.push (.cells (us ++ rest).toArray el (cap, cap + 1)), drawn := w.drawn + 1 } := by
            have hE : (b.data.map fun b => Value.int .u8 b.toNat) ++ Array.replicate (cap - b.size) (Value.int .u8 0) = (us ++ rest).toArray := by
              apply Array.ext'
              simp [us, rest]
            have hsz : (us ++ rest).length = cap := by simp [rest, hus]; omega
            unfold Conv.stringToBytes
            simp only [Sem.run_bind, run_choose, Question.forced, Bool.false_eq_true, if_false, Result.andThen_ok]
            show Result.andThen ((newRow el ((b.data.map fun b => Value.int .u8 b.toNat) ++ Array.replicate (cap - b.size) (Value.int .u8 0))).run cx.P { w with drawn := w.drawn + 1 }) _ = _
            rw [hE]
            simp only [newRow, Sem.run_bind, run_newObj, Result.andThen_ok, Sem.run_pure, markStringish, run_shape]
            have hshape : ({ w with heap := w.heap.push (.cells (us ++ rest).toArray el), drawn := w.drawn + 1 } : World).shape? w.heap.size = some (el, cap) := by
              simp only [World.shape?, Array.getElem?_push_size]
              rw [List.size_toArray, hsz]
            have hfz := freeze_heap { w with drawn := w.drawn + 1 } (us ++ rest).toArray el cap
            dsimp only at hfz
            rw [hshape]
            simp only [run_freeze, Result.andThen_ok, hfz]
            rfl
          obtain ⟨g1, g2⟩ := new_ok (cx := cx) hR hfr (w' := { w with heap := w.heap.push (.cells (us ++ rest).toArray el (cap, cap + 1)), drawn := w.drawn + 1 }) Psh.mk' (.vec (b.data.toList.map fun c => .lit (.int .u8 c.toNat)) el 1) cap
            ⟨us, rest, (cap, cap + 1), by
              have := concs_lits (ρ.put s.next (w.heap.size, cap)) us
              simp only [us, List.map_map] at this
              exact this, rfl, fun i hi hh => by simp [rest, hus] at hi; dsimp only at hh; omega, by simp [rest, hus]; omega⟩
          refine ⟨_, _, _, .inl ?_, conc_vs (Nm.put_at _ _ _), g1, g2⟩
          rw [e1]
          have hc : (Go.convert src dst (.string b)).run cx.P w = (Conv.stringToBytes el b).run cx.P w := by
            simp only [Go.convert, Sem.run_bind, underlying_ok hsrc, underlying_ok hdst, Result.andThen_ok, underlying_ok hel]
          rw [Sem.run_bind, hc, hw]
          simp
        · cases h
      · simp only [Option.map_eq_some_iff, Prod.mk.injEq] at h
        obtain ⟨c, hc, rfl, rfl⟩ := h
        rw [e1]
        exact Done.pure hR hc
    · split at h
      · rename_i el hsrc hdst
        split at h
        · rename_i n l hel hsl
          split at h
          · rename_i bs hbs
            cases h
            obtain ⟨cy, us, g1, g2, g3⟩ := sliceCells_ok hR hsl
            rw [h1] at g1
            cases g1
            obtain ⟨ns, rfl, rfl⟩ := bytes_ok hbs g2
            refine Done.same hR ?_ (conc_lit _ _)
            have g4 := (g3 w fun _ => rfl).2
            have g5 := (g3 w fun _ => rfl).1
            have hsl' : ∃ b off len cap, e x = .slice (some ⟨b, off, none⟩) len cap ∧ len = n := by
              cases a with
              | sl nm off len cap =>
                simp only [conc, Option.map_eq_some_iff] at h1
                obtain ⟨p, _, hp⟩ := h1
                rw [← hp] at g5
                simp [Builtin.lenOf] at g5
                exact ⟨p.1, off, len, cap, hp.symm, g5⟩
              | vs nm off len k =>
                simp only [conc, Option.map_eq_some_iff] at h1
                obtain ⟨p, _, hp⟩ := h1
                rw [← hp] at g5
                simp [Builtin.lenOf] at g5
                exact ⟨p.1, off, len, p.2 - k, hp.symm, g5⟩
              | lit u => rename_i hn; simp [SV.toValue?] at hn
              | _ => simp [sliceCells] at hsl
            obtain ⟨b, off, len, cap, e1, rfl⟩ := hsl'
            rw [e1] at g4 ⊢
            simp only [Builtin.firstCells, Nat.mul_one] at g4
            rw [Sem.run_bind, run_convert_bytes_string w src dst el _ _ _ hsrc hel hdst, run_bytesToString w _ _ _ ns (by simpa using g4)]
            have := push_bytes ns []
            simp only [List.nil_append] at this
            simp only [Result.andThen_ok, Sem.run_pure]
            congr 4
          · cases h
        · cases h
      · rename_i k0 k' hsrc hdst
        split at h
        · rename_i kk ee _
          cases h
          simp only [conc, Option.some.injEq] at h1
          refine Done.same hR (cv := .int k' (IE.den (.conv k' ee))) ?_ (pin_ok cx.fok _ _)
          simp only [← h1, Go.convert, Sem.run_bind, underlying_ok hsrc, underlying_ok hdst, Result.andThen_ok, Conv.intToInt, Sem.run_pure, IE.den]
        · cases h
      · rename_i hsrc hdst
        split at h
        · cases h
          refine Done.same hR ?_ h1
          simp only [conc, Option.some.injEq] at h1
          simp only [← h1, Go.convert, Sem.run_bind, underlying_ok hsrc, underlying_ok hdst, Result.andThen_ok, Sem.run_pure]
        · cases h
      · rename_i te hsrc hdst
        split at h
        · rename_i n off _
          split at h
          · rename_i c k hc hs
            split at h
            · rename_i hb
              cases h
              have hb := blt_lt hb
              obtain ⟨b, cap, vs, rest, e', fz, q1, _, q3, q4⟩ := cellsAt_ok hR hc
              obtain ⟨ji, q6, q7⟩ := size_info hs
              have q8 := concs_length q3
              refine Done.same hR ?_ h1
              rw [conc_ptr q1] at h1
              rw [← Option.some.inj h1, Sem.run_bind, Go.Lib.run_to_unsafe w _ hsrc hdst q6 (by omega) (e := e') (cells := (vs ++ rest).length) (by simp [World.shape?, q4]) (by simp; omega)]
              rfl
            · cases h
          · cases h
        · cases h
      · rename_i u hsrc hdst
        split at h
        · rename_i n off _
          split at h
          · rename_i c e' ji hsee hu
            split at h
            · rename_i hl
              cases h
              obtain ⟨b, cap, ob, q1, _, q3, vs, fz, q4, rfl, _⟩ := hR.obj n _ hsee
              have q8 := concs_length q4
              refine Done.same hR ?_ h1
              rw [conc_ptr q1] at h1
              rw [← Option.some.inj h1, Sem.run_bind, Go.Lib.run_from_unsafe w _ hsrc hdst hu (e := e') (cells := vs.length) (by simp [World.shape?, q3]) (by rw [q8]; exact hl)]
              rfl
            · cases h
          · cases h
        · cases h
      · cases h
  · cases h
end
end Go.Proofs.YtdkkblkbonjjgabGreatDoor.Ev

namespace Go.Proofs.YtdkkblkbonjjgabGreatDoor.Ev
open Go
variable [Env]
section
variable {cx : Cx} {B : Nat} {ρ : Nm} {w : World} {s s' : St} {v : SV} {ev : Operand → Option SV} {e : Operand → Value}

theorem kill_ok (hR : Rel cx B ρ w s) {n : Nat} {o0 : SO} (hn : s.see n = some o0) {b c : Nat} (hb : ρ n = some (b, c)) {w' : World} {ob : Obj} (hp : Upd w w' b ob) : Rel cx B ρ w' (s.kill n) ∧ Ext s (s.kill n) ρ ρ w w' := by
  obtain ⟨b0, c0, ob0, hb0, hB, hh, _⟩ := hR.obj n o0 hn
  rw [hb] at hb0; cases hb0
  have other : ∀ m o' b' c', s.see m = some o' → ρ m = some (b', c') → m ≠ n → b' ≠ b := fun m o' b' c' h1 h2 h3 e => h3 (hR.inj m n o' o0 b' c' c h1 hn h2 (by rw [e]; exact hb))
  refine ⟨⟨?_, ?_, ?_, ?_, by rw [hp.size]; exact hR.size⟩, ⟨Nat.le_refl _, Sub.refl _, fun n h h' => absurd h h', (fun n b c h h' => by rw [h] at h'; cases h'), ?_, (by rw [hp.size]; exact Nat.le_refl _), hp.tape, hp.os, hp.output, rfl, ?_, fun _ h => List.mem_cons_of_mem _ h, ?_⟩⟩
  · intro m o' h
    rw [see_kill] at h
    split at h
    · cases h
    · rename_i hm
      obtain ⟨b', c', ob', h1, h2, h3, h4⟩ := hR.obj m o' h
      exact ⟨b', c', ob', h1, h2, by rw [hp.else_ b' (other m o' b' c' h h1 hm)]; exact h3, h4⟩
  · intro m1 m2 o1 o2 b' c1 c2 h1 h2 h3 h4
    rw [see_kill] at h1 h2
    split at h1
    · cases h1
    · split at h2
      · cases h2
      · exact hR.inj m1 m2 o1 o2 b' c1 c2 h1 h2 h3 h4
  · intro m o' h
    simp only [St.kill, T.get_put] at h
    split at h
    · cases h
    · exact hR.bound m o' h
  · intro b' i v h
    obtain ⟨h1, h2⟩ := hR.old b' i v h
    exact ⟨h1, by rw [cell_of_heap (w := w) (hp.else_ b' (by omega))]; exact h2⟩
  · intro b' _ hno
    exact hp.else_ b' (fun e => hno n o0 c hn (by rw [e]; exact hb))
  · intro m o' h _
    rw [see_kill] at h
    split at h
    · cases h
    · exact ⟨o', h⟩
  · intro m hm _
    have hne : m ≠ n := fun e => hm (by rw [e]; exact List.mem_cons_self ..)
    exact ⟨by rw [see_kill, if_neg hne], fun o' b' c' h hb' => hp.else_ b' (other m o' b' c' h hb' hne)⟩

theorem killnew_ok (hR : Rel cx B ρ w s) {b : Nat} {o0 : SO} (hb : s.see b = some o0) {g c : Nat} (hg : ρ b = some (g, c)) (hf : ρ s.next = none) {w' : World} {ob : Obj} (hp : Upd w w' g ob) (o : SO)
    (ho : ORel (ρ.put s.next (g, c)) c o ob) : Rel cx B (ρ.put s.next (g, c)) w' ((s.kill b).new o) ∧ Ext s ((s.kill b).new o) ρ (ρ.put s.next (g, c)) w w' := by
  have hsub := Nm.put_sub (p := (g, c)) hf
  obtain ⟨g0, c0, ob0, e0, hB, hh, _⟩ := hR.obj b o0 hb
  rw [hg] at e0; cases e0
  have hbn : b < s.next := hR.bd b o0 hb
  have hsee : ∀ n, ((s.kill b).new o).see n = if n = s.next then (match hidden s.hid n with | true => none | false => some o) else if n = b then none else s.see n := by
    intro n
    rw [see_new]
    show (if n = s.next then _ else _) = _
    split
    · rfl
    · rw [see_kill]
  have hne : ∀ n o', s.see n = some o' → n ≠ s.next := fun n o' h => Nat.ne_of_lt (hR.bd n o' h)
  have other : ∀ m o' b' c', s.see m = some o' → ρ m = some (b', c') → m ≠ b → b' ≠ g := fun m o' b' c' h1 h2 h3 e => h3 (hR.inj m b o' o0 b' c' c h1 hb h2 (by rw [e]; exact hg))
  refine ⟨⟨?_, ?_, ?_, ?_, by rw [hp.size]; exact hR.size⟩, ⟨Nat.le_succ _, hsub, ?_, ?_, ?_, by rw [hp.size]; exact Nat.le_refl _, hp.tape, hp.os, hp.output, rfl, ?_, fun _ h => List.mem_cons_of_mem _ h, ?_⟩⟩
  · intro n o' h
    rw [hsee] at h
    split at h
    · rename_i hn
      split at h
      · cases h
      · cases h; subst hn; exact ⟨g, c, ob, Nm.put_at _ _ _, hB, hp.at_, ho⟩
    · split at h
      · cases h
      · rename_i hn hnb
        obtain ⟨b', c', ob', h1, h2, h3, h4⟩ := hR.obj n o' h
        exact ⟨b', c', ob', hsub _ _ h1, h2, by rw [hp.else_ b' (other n o' b' c' h h1 hnb)]; exact h3, h4.mono hsub⟩
  · intro n m o1 o2 b' c1 c2 h1 h2 h3 h4
    rw [hsee] at h1 h2
    by_cases en : n = s.next <;> by_cases em : m = s.next
    · omega
    · rw [if_neg em] at h2
      by_cases mb : m = b
      · rw [if_pos mb] at h2; cases h2
      · rw [if_neg mb] at h2
        rw [en, Nm.put_at] at h3; cases h3
        rw [Nm.put_ne _ _ em] at h4
        exact absurd rfl (other m o2 g c2 h2 h4 mb)
    · rw [if_neg en] at h1
      by_cases nb : n = b
      · rw [if_pos nb] at h1; cases h1
      · rw [if_neg nb] at h1
        rw [em, Nm.put_at] at h4; cases h4
        rw [Nm.put_ne _ _ en] at h3
        exact absurd rfl (other n o1 g c1 h1 h3 nb)
    · rw [if_neg en] at h1; rw [if_neg em] at h2
      rw [Nm.put_ne _ _ en] at h3; rw [Nm.put_ne _ _ em] at h4
      split at h1
      · cases h1
      · split at h2
        · cases h2
        · exact hR.inj n m o1 o2 b' c1 c2 h1 h2 h3 h4
  · intro n o' h
    simp only [St.new, St.kill, T.get_put] at h
    show n < s.next + 1
    split at h
    · omega
    · split at h
      · cases h
      · have := hR.bound n o' h; omega
  · intro b' i v h
    obtain ⟨h1, h2⟩ := hR.old b' i v h
    exact ⟨h1, by rw [cell_of_heap (w := w) (hp.else_ b' (by omega))]; exact h2⟩
  · intro n h0 h1
    by_cases en : n = s.next
    · show s.next ≤ n ∧ n < s.next + 1
      omega
    · rw [Nm.put_ne _ _ en] at h1; exact absurd h0 h1
  · intro n b' c' h0 h1
    by_cases en : n = s.next
    · rw [en, Nm.put_at] at h1; cases h1; exact .inr ⟨b, o0, c, hb, hg⟩
    · rw [Nm.put_ne _ _ en, h0] at h1; cases h1
  · intro b' _ hno
    exact hp.else_ b' (fun en => hno b o0 c hb (by rw [en]; exact hg))
  · intro n o' h h0
    rw [hsee] at h
    split at h
    · rename_i en; rw [en] at h0; exact absurd hf h0
    · split at h
      · cases h
      · exact ⟨o', h⟩
  · intro n hn hlt
    have hnb : n ≠ b := fun e => hn (by rw [e]; exact List.mem_cons_self ..)
    refine ⟨by rw [hsee, if_neg (by omega), if_neg hnb], fun o' b' c' h hb' => hp.else_ b' (other n o' b' c' h hb' hnb)⟩

/-- A vector is left where it lies, or copied: either way the elder name goes. -/
theorem killnew_grow (hR : Rel cx B ρ w s) {b : Nat} {o0 : SO} (hb : s.see b = some o0) (hf : ρ s.next = none) {w' : World} {ob : Obj} (hp : Psh w w' ob) (o : SO) (cap : Nat)
    (ho : ORel (ρ.put s.next (w.heap.size, cap)) cap o ob) : Rel cx B (ρ.put s.next (w.heap.size, cap)) w' ((s.kill b).new o) ∧ Ext s ((s.kill b).new o) ρ (ρ.put s.next (w.heap.size, cap)) w w' := by
  obtain ⟨h1, h2⟩ := new_ok hR hf hp o cap ho
  have hbn : b < s.next := hR.bd b o0 hb
  have hsee : ∀ n, ((s.kill b).new o).see n = if n = b then none else (s.new o).see n := by
    intro n
    rw [see_new, see_new]
    show (if n = s.next then _ else (s.kill b).see n) = _
    rw [see_kill]
    by_cases e1 : n = s.next
    · rw [if_pos e1, if_pos e1, if_neg (by omega)]
      rfl
    · rw [if_neg e1, if_neg e1]
  refine ⟨⟨?_, ?_, ?_, h1.old, h1.size⟩, ⟨h2.le, h2.sub, h2.dom, h2.newb, h2.frame, h2.size, h2.tape, h2.os, h2.output, h2.hid, ?_, fun _ h => List.mem_cons_of_mem _ h, ?_⟩⟩
  · intro n o' h
    rw [hsee] at h
    split at h
    · cases h
    · exact h1.obj n o' h
  · intro n m o1 o2 b' c1 c2 g1 g2
    rw [hsee] at g1 g2
    split at g1
    · cases g1
    · split at g2
      · cases g2
      · exact h1.inj n m o1 o2 b' c1 c2 g1 g2
  · intro n o' h
    simp only [St.new, St.kill, T.get_put] at h
    show n < s.next + 1
    split at h
    · omega
    · split at h
      · cases h
      · have := hR.bound n o' h; omega
  · intro n o' h
    rw [hsee] at h
    split at h
    · cases h
    · exact h2.seen n o' h
  · intro n hn hlt
    have hnb : n ≠ b := fun e => hn (by rw [e]; exact List.mem_cons_self ..)
    obtain ⟨g1, g2⟩ := h2.keepw n (fun hh => hn (List.mem_cons_of_mem _ hh)) hlt
    exact ⟨by rw [hsee, if_neg hnb]; exact g1, g2⟩

/-- What 'append' comes to where there is room, and where there is none. -/
theorem append_room {argTypes : Array TypeId} {ty t0 elem : TypeId} {base : Option Addr} {len cap n : Nat} {cy : Value} {i : TypeInfo} {us : List Value} (ht0 : argTypes[0]? = some t0) {t1 : TypeId} (ht1 : argTypes[1]? = some t1)
    {d1 : TypeDesc} (hd1 : cx.P.underlying t1 = some d1) (hnot : ∀ k, d1 ≠ .int k) (hu : cx.P.underlying t0 = some (.slice elem)) (hi : cx.P.info? elem = some i)
    (hl : ∀ w' : World, (∀ a, w'.cell? a = w.cell? a) → (Builtin.lenOf cy).run cx.P w' = .ok n w' ∧ (Builtin.firstCells i.size n cy).run cx.P w' = .ok us.toArray w') (hroom : len + n ≤ cap)
    {w' : World} (hst : ∀ a, base = some a → (storeCells (a.add (len * i.size)) us).run cx.P w = .ok () w') (hno : base = none → w' = w) :
    (Builtin.append_ argTypes ty #[.slice base len cap, cy]).run cx.P w = .ok (.slice base (len + n) cap) w' := by
  obtain ⟨h1, h2⟩ := hl w fun _ => rfl
  have hsz : (sizeOf elem).run cx.P w = .ok i.size w := by simp [sizeOf, typeInfo, hi]
  cases base with
  | none =>
    obtain rfl := hno rfl
    simp only [Builtin.append_, ht0, ht1, List.getElem?_toArray, List.getElem?_cons_zero, List.getElem?_cons_succ, Sem.run_bind, underlying_ok hu, underlying_ok hd1, Result.andThen_ok, hsz, Sem.run_pure, Bool.false_eq_true, if_false, h1, Bool.not_false, if_true]
    rw [if_pos hroom]
    simp only [Sem.run_bind, h2, Result.andThen_ok, Sem.run_pure]
  | some a =>
    have := hst a rfl
    simp only [Builtin.append_, ht0, ht1, List.getElem?_toArray, List.getElem?_cons_zero, List.getElem?_cons_succ, Sem.run_bind, underlying_ok hu, underlying_ok hd1, Result.andThen_ok, hsz, Sem.run_pure, Bool.false_eq_true, if_false, h1, Bool.not_false, if_true]
    rw [if_pos hroom]
    simp only [Sem.run_bind, h2, Result.andThen_ok, Sem.run_pure, this]

theorem append_grow {argTypes : Array TypeId} {ty t0 elem : TypeId} {base : Option Addr} {len cap n : Nat} {cy : Value} {i : TypeInfo} {z : Value} {us old : List Value} (ht0 : argTypes[0]? = some t0) {t1 : TypeId} (ht1 : argTypes[1]? = some t1)
    {d1 : TypeDesc} (hd1 : cx.P.underlying t1 = some d1) (hnot : ∀ k, d1 ≠ .int k) (hu : cx.P.underlying t0 = some (.slice elem)) (hi : cx.P.info? elem = some i) (hz : i.zero = some z)
    (hl : ∀ w' : World, (∀ a, w'.cell? a = w.cell? a) → (Builtin.lenOf cy).run cx.P w' = .ok n w' ∧ (Builtin.firstCells i.size n cy).run cx.P w' = .ok us.toArray w') (hroom : cap < len + n)
    (hold : ∀ w' : World, (∀ a, w'.cell? a = w.cell? a) → (Builtin.firstCells i.size len (.slice base len cap)).run cx.P w' = .ok old.toArray w') (hb : (len + n) * (i.bytes + 1) ≤ 140737488355328) :
    ∃ newCap rest, len + n ≤ newCap ∧ rest.length = (newCap - (len + n)) * z.cells.size ∧
      (Builtin.append_ argTypes ty #[.slice base len cap, cy]).run cx.P w = .ok (.slice (some ⟨w.heap.size, 0, none⟩) (len + n) newCap) { w with heap := w.heap.push (.cells (old ++ us ++ rest).toArray elem), drawn := w.drawn + 1 } := by
  obtain ⟨h1, _⟩ := hl w fun _ => rfl
  obtain ⟨_, h2⟩ := hl { w with drawn := w.drawn + 1 } fun _ => rfl
  have h3 := hold { w with drawn := w.drawn + 1 } fun _ => rfl
  have hsz : (sizeOf elem).run cx.P w = .ok i.size w := by simp [sizeOf, typeInfo, hi]
  have hti : ∀ w', (typeInfo elem).run cx.P w' = .ok i w' := fun w' => by simp [typeInfo, hi]
  have hzv : ∀ w', (zeroValue elem).run cx.P w' = .ok z w' := fun w' => by simp [zeroValue, typeInfo, hi, hz]
  have hbb : (len + n) * i.bytes ≤ 140737488355328 := by rw [Nat.mul_add] at hb; omega
  have hll : len + n ≤ 140737488355328 := by rw [Nat.mul_add] at hb; omega
  have hfit := growslice_fits hroom hbb
  refine ⟨(Question.appendCap (len + n) cap elem).cut (w.tape w.drawn (.appendCap (len + n) cap elem)), (Builtin.zeroCells z.cells ((Question.appendCap (len + n) cap elem).cut (w.tape w.drawn (.appendCap (len + n) cap elem)) - (len + n))).toList, Nat.le_add_right _ _, by simp [Builtin.zeroCells], ?_⟩
  simp only [Builtin.append_, ht0, ht1, List.getElem?_toArray, List.getElem?_cons_zero, List.getElem?_cons_succ, Sem.run_bind, underlying_ok hu, underlying_ok hd1, Result.andThen_ok, hsz, Sem.run_pure, Bool.false_eq_true, if_false, h1, Bool.not_false, if_true]
  rw [if_neg (by omega)]
  have hmx : ¬ (((len + n : Nat) : Int) > IntKind.i64.max ∧ (False ∨ i.bytes = 0)) := by
    rintro ⟨h, _⟩
    have : IntKind.i64.max = 9223372036854775807 := by decide
    omega
  have hgr : ¬ (Builtin.nextslicecap (len + n) cap * i.bytes > 2 ^ 48) := by
    have : (2 : Nat) ^ 48 = 281474976710656 := by decide
    omega
  rw [Sem.run_bind, hti, Result.andThen_ok, if_neg hmx, Sem.run_bind, hti, Result.andThen_ok, if_neg hgr, Sem.run_bind, run_choose]
  simp only [Question.forced, Bool.false_eq_true, if_false, Result.andThen_ok]
  rw [Sem.run_bind, hti, Result.andThen_ok, Sem.run_bind, run_askRoom, Result.andThen_ok, Sem.run_bind, h3, Result.andThen_ok, Sem.run_bind, h2, Result.andThen_ok, Sem.run_bind, hzv, Result.andThen_ok]
  simp only [newRow, Sem.run_bind, run_newObj, Result.andThen_ok, Sem.run_pure]
  congr 3
  congr 1
  apply Array.ext'
  simp

theorem done_append (hR : Rel cx B ρ w s) (hf : Fresh ρ s.next s'.next) {argTypes : Array TypeId} {ty t0 t1 elem : TypeId} {d1 : TypeDesc} (ht0 : argTypes[0]? = some t0) (ht1 : argTypes[1]? = some t1)
    (hd1 : cx.P.underlying t1 = some d1) (hnot : ∀ k, d1 ≠ .int k) (hu : cx.P.underlying t0 = some (.slice elem)) {x y : SV} {u cy : Value} (hx : conc ρ x = some u) (hy : conc ρ y = some cy)
    (h : append cx s elem x y = some (v, s')) : Done cx B (do Pure.pure (.value (← Builtin.append_ argTypes ty #[u, cy]))) ρ w s s' v := by
  unfold append at h
  split at h
  · cases h
  rename_i i hi
  split at h
  · cases h
  rename_i z hz
  split at h
  · cases h
  rename_i n new hsl
  obtain ⟨cy', us, g1, g2, g3⟩ := sliceCells_ok hR hsl
  rw [hy] at g1
  cases g1
  split at h
  · cases h
  rename_i hchk
  simp only [Bool.and_eq_true] at hchk
  obtain ⟨⟨⟨k1, k2⟩, k3⟩, k4⟩ := hchk
  have k2 : new.length = n * i.size := beq_eq k2
  have k3 := beq_eq k3
  have k4 := blt_lt k4
  have hone := isCells_ok g2 k1
  have hlen := concs_length g2
  split at h
  · -- a slice that is nil
    rw [conc_lit] at hx
    cases hx
    split at h
    · cases h
      refine Done.same hR ?_ (conc_lit _ _)
      rw [Sem.run_bind, append_room (w' := w) ht0 ht1 hd1 hnot hu hi g3 (Nat.le_refl _) (fun a ha => by cases ha) (fun _ => rfl)]
      rfl
    · rename_i n
      split at h
      · rename_i hb
        cases h
        obtain ⟨newCap, rest, e1, e2, e3⟩ := append_grow (ty := ty) (base := none) (len := 0) (cap := 0) (old := []) ht0 ht1 hd1 hnot hu hi hz g3 (by omega) (fun w' _ => by simp [Builtin.firstCells]) (by simpa using ble_le hb)
        have hfr := hf s.next (Nat.le_refl _) (by show s.next < s.next + 1; omega)
        simp only [Nat.zero_add, List.nil_append] at e1 e2 e3
        obtain ⟨q1, q2⟩ := new_ok (cx := cx) hR hfr (w' := { w with heap := w.heap.push (.cells (us ++ rest).toArray elem), drawn := w.drawn + 1 }) Psh.mk' (.vec new elem i.size) newCap
          ⟨us, rest, (0, 0), concs_mono (Nm.put_sub hfr) _ _ g2, rfl, fun j _ hj => by omega, by
            rw [hlen, k2, e2, k3, ← Nat.add_mul]; congr 1; omega⟩
        refine ⟨_, _, _, .inl ?_, conc_vs (Nm.put_at _ _ _), q1, q2⟩
        rw [Sem.run_bind, e3]
        rfl
      · cases h
  · -- a slice of known capacity
    rename_i b off len cap
    have hx' := hx
    simp only [conc, Option.map_eq_some_iff] at hx'
    obtain ⟨⟨g, c⟩, r1, r2⟩ := hx'
    split at h
    · rename_i hroom
      have hroom : len + n ≤ cap := ble_le hroom
      split at h
      · rename_i s1 hset
        cases h
        obtain ⟨g', c', w', q1, q2, q3, q4⟩ := setCells_ok hR hset g2 hone
        rw [r1] at q1
        cases q1
        refine ⟨ρ, w', _, .inl ?_, conc_sl r1, q3, q4⟩
        rw [← r2, Sem.run_bind, append_room (w' := w') ht0 ht1 hd1 hnot hu hi g3 hroom (fun a ha => by cases ha; rw [addr_add]; exact q2) (fun hh => by cases hh)]
        rfl
      · cases h
    · rename_i hroom
      have hroom : ¬ len + n ≤ cap := fun hh => by
        have : Nat.ble (Nat.add len n) cap = true := Nat.ble_eq_true_of_le hh
        rw [this] at hroom; cases hroom
      split at h
      · rename_i l hl hb
        cases h
        obtain ⟨b0, off0, vs, p1, p2, p3, p4⟩ := loadFrom_ok hR hl
        rw [conc_ptr r1] at p1
        cases p1
        have p3' : vs.length = len * i.size := p3
        have hold : ∀ w' : World, (∀ a, w'.cell? a = w.cell? a) → (Builtin.firstCells i.size len (.slice (some ⟨g, off, none⟩) len cap)).run cx.P w' = .ok vs.toArray w' := by
          intro w' hw
          simp only [Builtin.firstCells]
          rw [← p3']
          exact run_cells fun j v hj => by rw [hw]; exact p4 j v hj
        obtain ⟨newCap, rest, e1, e2, e3⟩ := append_grow (ty := ty) ht0 ht1 hd1 hnot hu hi hz g3 (by omega) hold (ble_le hb)
        have hfr := hf s.next (Nat.le_refl _) (by show s.next < s.next + 1; omega)
        obtain ⟨q1, q2⟩ := new_ok (cx := cx) hR hfr (w' := { w with heap := w.heap.push (.cells (vs ++ us ++ rest).toArray elem), drawn := w.drawn + 1 }) Psh.mk' (.vec (l ++ new) elem i.size) newCap
          ⟨vs ++ us, rest, (0, 0), concs_mono (Nm.put_sub hfr) _ _ (concs_append p2 g2), rfl, fun j _ hj => by omega, by
            rw [List.length_append, p3', hlen, k2, e2, k3, ← Nat.add_mul, ← Nat.add_mul]; congr 1; omega⟩
        refine ⟨_, _, _, .inl ?_, conc_vs (Nm.put_at _ _ _), q1, q2⟩
        rw [← r2, Sem.run_bind, e3]
        rfl
      · cases h
  · -- a vector
    rename_i b len
    have hx' := hx
    simp only [conc, Option.map_eq_some_iff] at hx'
    obtain ⟨⟨g, c⟩, r1, r2⟩ := hx'
    simp only [Nat.sub_zero] at r2
    split at h
    · rename_i cs el sz hs
      split at h
      · rename_i hc
        simp only [Bool.and_eq_true] at hc
        obtain ⟨⟨⟨m1, m2⟩, m3⟩, m4⟩ := hc
        have m1 : cs.length = len * i.size := beq_eq m1
        have m2 := beq_eq m2
        have m3 := beq_eq m3
        have m4 : (len + n) * (i.bytes + 1) ≤ 140737488355328 := ble_le m4
        subst m2; subst m3
        obtain ⟨g', c', ob, q1, q2, q3, vs, rest, fz, q4, rfl, q6, q7⟩ := hR.obj b _ hs
        rw [r1] at q1
        cases q1
        have q8 := concs_length q4
        have hcap : len ≤ c := by
          have : len * i.size ≤ c * i.size := by omega
          exact Nat.le_of_mul_le_mul_right this k4
        have hcell : ∀ (w' : World), (∀ a, w'.cell? a = w.cell? a) → (Builtin.firstCells i.size len (.slice (some ⟨g, 0, none⟩) len c)).run cx.P w' = .ok vs.toArray w' := by
          intro w' hw
          simp only [Builtin.firstCells]
          rw [← m1, ← q8]
          refine run_cells fun j v hj => ?_
          rw [hw, cell_at q3, Nat.zero_add, List.getElem?_append_left (List.getElem?_eq_some_iff.1 hj).1]
          exact hj
        cases n with
        | zero =>
          cases h
          have hus : us = [] := List.eq_nil_of_length_eq_zero (by rw [hlen, k2]; omega)
          refine Done.same hR ?_ hx
          rw [← r2, Sem.run_bind, append_room (w' := w) ht0 ht1 hd1 hnot hu hi g3 hcap (fun a ha => by rw [hus]; simp [storeCells]) (fun hh => by cases hh)]
          rfl
        | succ n =>
          cases h
          have hfr := hf s.next (Nat.le_refl _) (by show s.next < s.next + 1; omega)
          by_cases hroom : len + (n + 1) ≤ c
          · have hrest : us.length ≤ rest.length := by
              have : (len + (n + 1)) * i.size ≤ c * i.size := Nat.mul_le_mul_right _ hroom
              rw [Nat.add_mul] at this
              omega
            obtain ⟨w', t1, t2⟩ := run_storeCells cx.P (off := len * i.size) us 0 w (vs ++ rest) q3 (by simpa using q6) hone (by simp; omega)
            have he : (vs ++ rest).take (len * i.size + 0) ++ (us ++ (vs ++ rest).drop (len * i.size + 0 + us.length)) = (vs ++ us) ++ rest.drop us.length := by
              rw [show len * i.size + 0 = vs.length by omega, List.take_left, List.drop_append]
              simp
            rw [he] at t2
            obtain ⟨u1, u2⟩ := killnew_ok (cx := cx) hR hs r1 hfr t2 (.vec (cs ++ new) el i.size) ⟨vs ++ us, rest.drop us.length, fz, concs_mono (Nm.put_sub hfr) _ _ (concs_append q4 g2), rfl, by
                simp only [List.length_append, List.length_drop]
                intro j hj; exact q6 j (by omega), by
                simp only [List.length_append, List.length_drop]; omega⟩
            refine ⟨_, w', _, .inl ?_, conc_vs (Nm.put_at _ _ _), u1, u2⟩
            rw [← r2, Sem.run_bind, append_room (w' := w') ht0 ht1 hd1 hnot hu hi g3 hroom (fun a ha => by cases ha; rw [addr_add, Nat.zero_add]; exact t1) (fun hh => by cases hh)]
            rfl
          · obtain ⟨newCap, rest', e1, e2, e3⟩ := append_grow (ty := ty) ht0 ht1 hd1 hnot hu hi hz g3 (by omega) hcell m4
            obtain ⟨u1, u2⟩ := killnew_grow (cx := cx) hR hs hfr (w' := { w with heap := w.heap.push (.cells (vs ++ us ++ rest').toArray el), drawn := w.drawn + 1 }) Psh.mk' (.vec (cs ++ new) el i.size) newCap
              ⟨vs ++ us, rest', (0, 0), concs_mono (Nm.put_sub hfr) _ _ (concs_append q4 g2), rfl, fun j _ hj => by omega, by
                rw [List.length_append, q8, m1, hlen, k2, e2, k3, ← Nat.add_mul, ← Nat.add_mul]; congr 1; omega⟩
            refine ⟨_, _, _, .inl ?_, conc_vs (Nm.put_at _ _ _), u1, u2⟩
            rw [← r2, Sem.run_bind, e3]
            rfl
      · cases h
    · cases h
  · cases h
end
end Go.Proofs.YtdkkblkbonjjgabGreatDoor.Ev

namespace Go.Proofs.YtdkkblkbonjjgabGreatDoor.Ev
open Go
variable [Env]
section
variable {cx : Cx} {B : Nat} {ρ : Nm} {w : World} {s s' : St} {v : SV} {ev : Operand → Option SV} {e : Operand → Value}

theorem run_slice {t elem : TypeId} {a : Addr} {len cap l h size : Nat} {lo hi : Option Value} (hu : cx.P.underlying t = some (.slice elem)) (hs : size? cx.P elem = some size)
    (hlo : lo = none ∧ l = 0 ∨ ∃ k, lo = some (.int k (l : Int))) (hhi : hi = none ∧ h = len ∨ ∃ k, hi = some (.int k (h : Int))) (h1 : l ≤ h) (h2 : h ≤ cap) :
    (Instr.sliceAt t (.slice (some a) len cap) lo hi none).run cx.P w = .ok (.slice (some (if cap = l then a else a.add (l * size))) (h - l) (cap - l)) w := by
  have hb : (Instr.sliceBounds true len cap lo hi none).run cx.P w = .ok (l, h, cap) w := by
    have hh : (match hi, (none : Option Value) with
      | some v, some _ => Instr.sliceBound v cap .slice3B
      | some v, none => Instr.sliceBound v cap .sliceAcap
      | none, none => Pure.pure len
      | none, some _ => stuck "Slice: max without high" : Sem Nat).run cx.P w = .ok h w := by
      rcases hhi with ⟨rfl, rfl⟩ | ⟨k, rfl⟩
      · rfl
      · simp only [Instr.sliceBound, asIntOf, Sem.run_bind, Sem.run_pure, Result.andThen_ok]
        rw [if_pos ⟨by omega, by omega⟩]
        rfl
    rcases hlo with ⟨rfl, rfl⟩ | ⟨k, rfl⟩ <;> rcases hhi with ⟨rfl, rfl⟩ | ⟨k', rfl⟩ <;>
      simp only [Instr.sliceBounds, Sem.run_bind, Sem.run_pure, Result.andThen_ok, Option.isSome_none, Bool.false_eq_true, if_false, if_true, Instr.sliceBound, asIntOf]
    · rw [if_pos ⟨by omega, by omega⟩]
      rfl
    · rw [if_pos ⟨by omega, by omega⟩]
      rfl
    · rw [if_pos ⟨by omega, by omega⟩]
      simp only [Sem.run_pure, Result.andThen_ok, Int.toNat_natCast]
      rw [if_pos ⟨by omega, by omega⟩]
      rfl
  simp only [Instr.sliceAt, Sem.run_bind, underlying_ok hu, Result.andThen_ok, Instr.slice, hb, size_ok hs, Sem.run_pure]
  split <;> rfl

theorem run_slice_array {t elem : TypeId} {a : Addr} {len l h size : Nat} {lo hi : Option Value} (hua : cx.P.underlying t = some (.array len elem)) (hs : size? cx.P elem = some size)
    (hlo : lo = none ∧ l = 0 ∨ ∃ k, lo = some (.int k (l : Int))) (hhi : hi = none ∧ h = len ∨ ∃ k, hi = some (.int k (h : Int))) (h1 : l ≤ h) (h2 : h ≤ len) :
    (Instr.sliceAt t (.pointer (some a)) lo hi none).run cx.P w = .ok (.slice (some (if len = l then a else a.add (l * size))) (h - l) (len - l)) w := by
  have hb : (Instr.sliceBounds false len len lo hi none).run cx.P w = .ok (l, h, len) w := by
    rcases hlo with ⟨rfl, rfl⟩ | ⟨k, rfl⟩ <;> rcases hhi with ⟨rfl, rfl⟩ | ⟨k', rfl⟩ <;>
      simp only [Instr.sliceBounds, Sem.run_bind, Sem.run_pure, Result.andThen_ok, Option.isSome_none, Bool.false_eq_true, if_false, Instr.sliceBound, asIntOf]
    · rw [if_pos ⟨by omega, by omega⟩]
      rfl
    · rw [if_pos ⟨by omega, by omega⟩]
      rfl
    · rw [if_pos ⟨by omega, by omega⟩]
      simp only [Sem.run_pure, Result.andThen_ok, Int.toNat_natCast]
      rw [if_pos ⟨by omega, by omega⟩]
      rfl
  simp only [Instr.sliceAt, Sem.run_bind, underlying_ok hua, Result.andThen_ok, Instr.sureAddr, Sem.run_pure, hb, size_ok hs]

theorem optLo_ok {lo : Option Operand} {l d : Nat} (h : (match lo with | none => some d | some o => (ev o).bind asNat?) = some l) (hlo : ∀ o, lo = some o → ∀ sv, ev o = some sv → conc ρ sv = some (e o)) :
    lo.map e = none ∧ l = d ∨ ∃ k, lo.map e = some (.int k (l : Int)) := by
  cases lo with
  | none => simp only [Option.some.injEq] at h; exact .inl ⟨rfl, h.symm⟩
  | some o =>
    obtain ⟨k, hk⟩ := asNat_ok (hlo o rfl) h
    exact .inr ⟨k, by simp [hk]⟩

theorem optLit_ok {lo : Option Operand} {l : Option Value} (h : (match lo with | none => some none | some o => (litOf ev o).map some) = some l) (hlo : ∀ o, lo = some o → ∀ sv, ev o = some sv → conc ρ sv = some (e o)) : lo.map e = l := by
  cases lo with
  | none => simp only [Option.some.injEq] at h; simp [← h]
  | some o =>
    simp only [Option.map_eq_some_iff] at h
    obtain ⟨u, hu, rfl⟩ := h
    simp [litOf_ok (hlo o rfl) hu]

theorem optSym_ok {lo : Option Operand} {l : Option (IntKind × IE)} (h : (match lo with | none => some none | some o => ((ev o).bind symInt).map some) = some l) (hlo : ∀ o, lo = some o → ∀ sv, ev o = some sv → conc ρ sv = some (e o)) :
    lo.map e = l.map fun p => .int p.1 p.2.den := by
  cases lo with
  | none => simp only [Option.some.injEq] at h; simp [← h]
  | some o =>
    simp only [Option.map_eq_some_iff] at h
    obtain ⟨u, hu, rfl⟩ := h
    cases hv : ev o with
    | none => simp [hv] at hu
    | some sv =>
      rw [hv, Option.bind_some] at hu
      obtain ⟨k, i⟩ := u
      have h1 := hlo o rfl sv hv
      rw [symInt_ok hu] at h1
      simp [← Option.some.inj h1]

theorem bytes_whole (b : ByteArray) : b.extract 0 b.size = b := by
  cases b with
  | mk d =>
    apply ByteArray.ext
    simp

theorem symSlice_ok {fs : List Fact} (hf : ∀ f ∈ fs, f.holds) {P : Program} {t : TypeId} (hu : P.underlying t = some .string) {se : SE} {lo hi : Option (Option (IntKind × IE))} {r : SV} (h : symSlice fs se lo hi = some r) (w : World) :
    ∃ l h' cv, lo = some l ∧ hi = some h' ∧ conc ρ r = some cv ∧ (Instr.sliceAt t (.string se.den) (l.map fun p => .int p.1 p.2.den) (h'.map fun p => .int p.1 p.2.den) none).run P w = .ok cv w := by
  unfold symSlice at h
  split at h
  · rename_i k i
    split at h
    · rename_i n
      split at h
      · rename_i hd
        cases h
        have hd := of_decide_eq_false (ltD_ok hf hd)
        simp only [IE.den] at hd
        refine ⟨_, _, _, rfl, rfl, by simp only [conc]; rfl, ?_⟩
        simp only [Instr.sliceAt, Sem.run_bind, underlying_ok hu, Result.andThen_ok, Instr.slice, Option.isSome_none, Bool.false_eq_true, if_false, Sem.run_pure, Instr.sliceBounds, Option.map_none, Option.map_some, Instr.sliceBound, asIntOf, IE.den, Int.ofNat_eq_natCast]
        rw [if_pos ⟨by omega, by omega⟩]
        rfl
      · cases h
    · rename_i e'
      split at h
      · rename_i hb
        cases h
        have hb := SE.beq_ok _ _ hb
        subst hb
        refine ⟨_, _, _, rfl, rfl, by simp only [conc]; rfl, ?_⟩
        simp only [Instr.sliceAt, Sem.run_bind, underlying_ok hu, Result.andThen_ok, Instr.slice, Option.isSome_none, Bool.false_eq_true, if_false, Sem.run_pure, Instr.sliceBounds, Option.map_none, Option.map_some, Instr.sliceBound, asIntOf, IE.den]
        rw [if_pos ⟨by omega, by omega⟩]
        simp only [Sem.run_pure, Result.andThen_ok, Int.toNat_natCast, bytes_whole]
      · cases h
    · cases h
  · rename_i k i k' i'
    split at h
    · rename_i m n
      split at h
      · rename_i hm hd
        cases h
        have hm := ble_le hm
        have hd := of_decide_eq_false (ltD_ok hf hd)
        simp only [IE.den] at hd
        refine ⟨_, _, _, rfl, rfl, by simp only [conc]; rfl, ?_⟩
        simp only [Instr.sliceAt, Sem.run_bind, underlying_ok hu, Result.andThen_ok, Instr.slice, Option.isSome_none, Bool.false_eq_true, if_false, Sem.run_pure, Instr.sliceBounds, Option.map_some, Instr.sliceBound, asIntOf, IE.den, Int.ofNat_eq_natCast]
        rw [if_pos ⟨by omega, by omega⟩]
        simp only [Sem.run_pure, Result.andThen_ok, Int.toNat_natCast]
        rw [if_pos ⟨by omega, by omega⟩]
        rfl
      · cases h
    · cases h
  · cases h

theorem done_slice (hR : Rel cx B ρ w s) {t : TypeId} {x : Operand} {lo hi mx : Option Operand} (hx : ∀ sv, ev x = some sv → conc ρ sv = some (e x))
    {r : Option (SV × St)} (h : r = some (v, s')) (hr : r = (match ev x with
    | some (.sl n off len cap) => match cx.P.underlying t, mx with
      | some (.slice elem), none => match size? cx.P elem, (match lo with | none => some 0 | some o => (ev o).bind asNat?), (match hi with | none => some len | some o => (ev o).bind asNat?) with
        | some size, some l, some h => match Nat.ble l h && Nat.ble h cap with
          | true => some (.sl n (match Nat.beq cap l with | true => off | false => Nat.add off (Nat.mul l size)) (Nat.sub h l) (Nat.sub cap l), s)
          | false => none
        | _, _, _ => none
      | _, _ => none
    | some (.vs n off len k) => match cx.P.underlying t, mx with
      | some (.slice elem), none => match size? cx.P elem, (match lo with | none => some 0 | some o => (ev o).bind asNat?), (match hi with | none => some len | some o => (ev o).bind asNat?) with
        | some size, some l, some h => match Nat.ble l h && Nat.ble h len && (Nat.blt l len || Nat.beq l 0) && (match s.see n with | some (.vec c _ sz) => Nat.beq c.length (Nat.mul (Nat.add len k) sz) && Nat.blt 0 sz | _ => false) with
          | true => some (.vs n (Nat.add off (Nat.mul l size)) (Nat.sub h l) (Nat.add k l), s)
          | false => match Nat.beq l len && Nat.beq h len && (match s.see n with | some (.vec c _ sz) => Nat.beq c.length (Nat.mul (Nat.add len k) sz) && Nat.blt 0 sz | _ => false) with
            | true => some (.v0 n off l size k, s)
            | false => none
        | _, _, _ => none
      | _, _ => none
    | some (.ptr n off) => match cx.P.underlying t, mx with
      | some (.array len elem), none => match size? cx.P elem, (match lo with | none => some 0 | some o => (ev o).bind asNat?), (match hi with | none => some len | some o => (ev o).bind asNat?) with
        | some size, some l, some h => match Nat.ble l h && Nat.ble h len with
          | true => some (.sl n (match Nat.beq len l with | true => off | false => Nat.add off (Nat.mul l size)) (Nat.sub h l) (Nat.sub len l), s)
          | false => none
        | _, _, _ => none
      | _, _ => none
    | some (.sstr e) => match cx.P.underlying t, mx with
      | some .string, none => (symSlice cx.facts e (match lo with | none => some none | some o => ((ev o).bind symInt).map some) (match hi with | none => some none | some o => ((ev o).bind symInt).map some)).map fun v => (v, s)
      | _, _ => none
    | some a => match a.toValue?, (match lo with | none => some none | some o => (litOf ev o).map some), (match hi with | none => some none | some o => (litOf ev o).map some), (match mx with | none => some none | some o => (litOf ev o).map some) with
      | some u, some l, some h, some m => (pureRun cx.P (Instr.sliceAt t u l h m)).map fun v => (.lit v, s)
      | _, _, _, _ => none
    | none => none)) (hlo : ∀ o, lo = some o → ∀ sv, ev o = some sv → conc ρ sv = some (e o))
    (hhi : ∀ o, hi = some o → ∀ sv, ev o = some sv → conc ρ sv = some (e o)) (hmx : ∀ o, mx = some o → ∀ sv, ev o = some sv → conc ρ sv = some (e o)) : Done cx B (do Pure.pure (.value (← Instr.sliceAt t (e x) (lo.map e) (hi.map e) (mx.map e)))) ρ w s s' v := by
  subst hr
  split at h
  · rename_i n off len cap ha
    have h1 := hx _ ha
    simp only [conc, Option.map_eq_some_iff] at h1
    obtain ⟨⟨b, c⟩, h2, h3⟩ := h1
    split at h
    · rename_i elem hu
      split at h
      · rename_i size l h' hs hl hh
        split at h
        · rename_i hc
          simp only [Bool.and_eq_true] at hc
          have c1 := ble_le hc.1
          have c2 := ble_le hc.2
          cases h
          refine Done.same hR ?_ (conc_sl h2)
          rw [← h3, Sem.run_bind, Option.map_none, run_slice hu hs (optLo_ok hl hlo) (optLo_ok hh hhi) c1 c2]
          simp only [Result.andThen_ok, Sem.run_pure]
          congr 4
          by_cases hcl : cap = l
          · subst hcl
            have : Nat.beq cap cap = true := Nat.beq_refl cap
            rw [if_pos rfl, this]
          · have : Nat.beq cap l = false := by
              cases hb : Nat.beq cap l
              · rfl
              · exact absurd (beq_eq hb) hcl
            rw [if_neg hcl, this, addr_add]
            rfl
        · cases h
      · cases h
    · cases h
  · rename_i n off len k ha
    have h1 := hx _ ha
    simp only [conc, Option.map_eq_some_iff] at h1
    obtain ⟨⟨b, c⟩, h2, h3⟩ := h1
    split at h
    · rename_i elem hu
      split at h
      · rename_i size l h' hs hl hh
        split at h
        · rename_i hc
          simp only [Bool.and_eq_true, Bool.or_eq_true] at hc
          obtain ⟨⟨⟨c1, c2⟩, c3⟩, c4⟩ := hc
          have c1 := ble_le c1
          have c2 := ble_le c2
          cases h
          -- the capacity is at least what is known
          have hcap : len + k ≤ c := by
            split at c4
            · rename_i cs el sz hsee
              simp only [Bool.and_eq_true] at c4
              have d1 : cs.length = (len + k) * sz := beq_eq c4.1
              have d2 := blt_lt c4.2
              obtain ⟨g', c', ob, q1, q2, q3, vs, rest, fz, q4, rfl, q6, q7⟩ := hR.obj n _ hsee
              rw [h2] at q1
              cases q1
              have q8 := concs_length q4
              have : (len + k) * sz ≤ c * sz := by omega
              exact Nat.le_of_mul_le_mul_right this d2
            · cases c4
          have hlt : l < len ∨ l = 0 := c3.imp blt_lt beq_eq
          refine Done.same hR ?_ (conc_vs h2)
          rw [← h3, Sem.run_bind, Option.map_none, run_slice hu hs (optLo_ok hl hlo) (optLo_ok hh hhi) c1 (by omega)]
          simp only [Result.andThen_ok, Sem.run_pure]
          have e1 : (if c - k = l then (⟨b, off, none⟩ : Addr) else (Addr.mk b off none).add (l * size)) = ⟨b, off + l * size, none⟩ := by
            rw [addr_add]
            split
            · have : l = 0 := by omega
              subst this
              simp
            · rfl
          have e2 : c - k - l = c - (k + l) := by omega
          rw [e1, e2]
          rfl
        · split at h
          · rename_i hc
            simp only [Bool.and_eq_true] at hc
            obtain ⟨⟨c1, c2⟩, c4⟩ := hc
            have c1 := beq_eq c1
            have c2 := beq_eq c2
            cases h
            have hcap : len + k ≤ c := by
              split at c4
              · rename_i cs el sz hsee
                simp only [Bool.and_eq_true] at c4
                have d1 : cs.length = (len + k) * sz := beq_eq c4.1
                have d2 := blt_lt c4.2
                obtain ⟨g', c', ob, q1, q2, q3, vs, rest, fz, q4, rfl, q6, q7⟩ := hR.obj n _ hsee
                rw [h2] at q1
                cases q1
                have q8 := concs_length q4
                have : (len + k) * sz ≤ c * sz := by omega
                exact Nat.le_of_mul_le_mul_right this d2
              · cases c4
            refine Done.same hR (cv := .slice (some (if c - k = l then ⟨b, off, none⟩ else (Addr.mk b off none).add (l * size))) 0 (c - k - l)) ?_ (by simp only [conc, h2, Option.map_some])
            rw [← h3, Sem.run_bind, Option.map_none, run_slice hu hs (optLo_ok hl hlo) (optLo_ok hh hhi) (by omega) (by omega)]
            simp only [Result.andThen_ok, Sem.run_pure]
            rw [c2, c1, Nat.sub_self]
          · cases h
      · cases h
    · cases h
  · rename_i n off ha
    have h1 := hx _ ha
    simp only [conc, Option.map_eq_some_iff] at h1
    obtain ⟨⟨b, c⟩, h2, h3⟩ := h1
    split at h
    · rename_i len elem hua
      split at h
      · rename_i size l h' hs hl hh
        split at h
        · rename_i hc
          simp only [Bool.and_eq_true] at hc
          have c1 := ble_le hc.1
          have c2 := ble_le hc.2
          cases h
          refine Done.same hR ?_ (conc_sl h2)
          rw [← h3, Sem.run_bind, Option.map_none, run_slice_array hua hs (optLo_ok hl hlo) (optLo_ok hh hhi) c1 c2]
          simp only [Result.andThen_ok, Sem.run_pure]
          congr 4
          by_cases hcl : len = l
          · subst hcl
            have : Nat.beq len len = true := Nat.beq_refl len
            rw [if_pos rfl, this]
          · have : Nat.beq len l = false := by
              cases hb : Nat.beq len l
              · rfl
              · exact absurd (beq_eq hb) hcl
            rw [if_neg hcl, this, addr_add]
            rfl
        · cases h
      · cases h
    · cases h
  · rename_i se ha
    have h1 := hx _ ha
    simp only [conc, Option.some.injEq] at h1
    split at h
    · rename_i hu
      simp only [Option.map_eq_some_iff, Prod.mk.injEq] at h
      obtain ⟨c, hc, rfl, rfl⟩ := h
      obtain ⟨l, h', cv, q1, q2, q3, q4⟩ := symSlice_ok (ρ := ρ) cx.fok hu hc w
      refine Done.same hR ?_ q3
      rw [← h1, optSym_ok q1 hlo, optSym_ok q2 hhi, Option.map_none, Sem.run_bind, q4]
      rfl
    · cases h
  · rename_i a _ _ _ _ ha
    split at h
    · rename_i u l h' m hu hl hh hm
      simp only [Option.map_eq_some_iff, Prod.mk.injEq] at h
      obtain ⟨c, hc, rfl, rfl⟩ := h
      have e1 : e x = u := by
        have := toValue_conc ρ a u hu
        rw [hx a ha] at this
        exact Option.some.inj this
      rw [e1, optLit_ok hl hlo, optLit_ok hh hhi, optLit_ok hm hmx]
      exact Done.pure hR hc
    · cases h
  · cases h
end
end Go.Proofs.YtdkkblkbonjjgabGreatDoor.Ev

namespace Go.Proofs.YtdkkblkbonjjgabGreatDoor.Ev
open Go
variable [Env]
section
variable {cx : Cx} {B : Nat} {ρ : Nm} {w : World} {s s' : St} {v : SV} {ev : Operand → Option SV} {e : Operand → Value}

theorem done_typeAssert (hR : Rel cx B ρ w s) {x : Operand} {t asserted : TypeId} {ok : Bool} (hx : ∀ sv, ev x = some sv → conc ρ sv = some (e x)) {r : Option (SV × St)} (h : r = some (v, s'))
    (hr : r = xop cx ev s (.typeAssert x t asserted ok)) : Done cx B (do Pure.pure (.value (← Instr.typeAssert (e x) t asserted ok))) ρ w s s' v := by
  subst hr
  simp only [xop] at h
  have fin : ∀ {sv : SV} {cv : Value}, (Instr.typeAssert (e x) t asserted ok).run cx.P w = .ok cv w → conc ρ sv = some cv → Done cx B (do Pure.pure (.value (← Instr.typeAssert (e x) t asserted ok))) ρ w s s sv := by
    intro sv cv h1 h2
    refine Done.same hR (cv := cv) ?_ h2
    rw [Sem.run_bind, h1]
    rfl
  split at h
  · rename_i u hu
    simp only [Option.map_eq_some_iff, Prod.mk.injEq] at h
    obtain ⟨c, hc, rfl, rfl⟩ := h
    have := litOf_ok hx hu
    subst this
    exact Done.pure hR hc
  · split at h
    · rename_i d a want ha hd
      have hxa := hx _ ha
      simp only [conc, Option.map_eq_some_iff] at hxa
      obtain ⟨u, hu, he⟩ := hxa
      split at h
      · rename_i i hi
        split at h
        · rename_i hm
          cases h
          refine fin (cv := if ok then .tuple #[.iface d u, .bool true] else .iface d u) ?_ ?_
          · have hti : (typeInfo d).run cx.P w = .ok i w := by simp [typeInfo, hi]
            rw [← he]
            simp only [Instr.typeAssert, Sem.run_bind, underlying_ok hd, Result.andThen_ok, hti, hm, Sem.run_pure]
          · cases ok
            · simp [conc, hu]
            · simp [conc, concs, hu]
        · cases h
      · cases h
    · rename_i d a dd hno ha hd
      have hxa := hx _ ha
      simp only [conc, Option.map_eq_some_iff] at hxa
      obtain ⟨u, hu, he⟩ := hxa
      split at h
      · rename_i hb
        have hb := beq_eq hb
        cases h
        refine fin (cv := if ok then .tuple #[u, .bool true] else u) ?_ ?_
        · rw [← he]
          simp only [Instr.typeAssert, Sem.run_bind, underlying_ok hd, Result.andThen_ok]
          cases dd <;> first
            | exact absurd rfl (hno _)
            | (simp only [hb, if_true, Sem.run_pure])
        · cases ok
          · simpa using hu
          · simp [conc, concs, hu]
      · rename_i hb
        have hne : ¬ d = asserted := fun e => by subst e; rw [Nat.beq_refl] at hb; cases hb
        split at h
        · rename_i z hz
          cases h
          have hzv : (zeroValue asserted).run cx.P w = .ok z w := by
            cases hi : cx.P.info? asserted with
            | none => rw [hi] at hz; cases hz
            | some i =>
              rw [hi] at hz
              have hz : i.zero = some z := hz
              simp [zeroValue, typeInfo, hi, hz]
          refine fin (cv := .tuple #[z, .bool false]) ?_ (by simp [conc, concs])
          rw [← he]
          simp only [Instr.typeAssert, Sem.run_bind, underlying_ok hd, Result.andThen_ok]
          cases dd <;> first
            | exact absurd rfl (hno _)
            | (simp only [if_neg hne, if_true, Sem.run_bind, hzv, Result.andThen_ok, Sem.run_pure])
        · cases h
    · cases h

theorem fresh_new (hf : Fresh ρ s.next s'.next) (h : s'.next = s.next + 1) : ρ s.next = none := hf s.next (Nat.le_refl _) (by omega)

theorem mem_opt {o : Operand} {a : Option Operand} (h : a = some o) {l : List Operand} (hl : l = a.toList) : o ∈ l := by subst h; subst hl; simp

set_option maxHeartbeats 1000000 in
theorem xop_ok (hR : Rel cx B ρ w s) (hf : Fresh ρ s.next s'.next) (o : Oper) (hev : ∀ x ∈ o.op.operands, ∀ sv, ev x = some sv → conc ρ sv = some (e x)) (h : xop cx ev s o.op = some (v, s')) :
    Done cx B (execOp e o) ρ w s s' v := by
  obtain ⟨dst, op, type, pos, after, guard⟩ := o
  dsimp only at hev h
  cases op with
  | move x =>
    simp only [xop] at h
    split at h
    · rename_i v' hv
      cases h
      exact Done.same hR rfl (hev x (by simp [Op.operands]) _ hv)
    · cases h
  | assign x =>
    simp only [xop] at h
    split at h
    · rename_i v' hv
      cases h
      exact Done.same hR rfl (hev x (by simp [Op.operands]) _ hv)
    · cases h
  | pick c a b =>
    simp only [xop] at h
    split at h
    · rename_i hc
      simp only [Option.map_eq_some_iff, Prod.mk.injEq] at h
      obtain ⟨v', hv, rfl, rfl⟩ := h
      have h1 := hev c (by simp [Op.operands]) _ hc
      rw [conc_lit] at h1
      refine Done.same hR ?_ (hev a (by simp [Op.operands]) _ hv)
      simp only [execOp, ← Option.some.inj h1]
      rfl
    · rename_i hc
      simp only [Option.map_eq_some_iff, Prod.mk.injEq] at h
      obtain ⟨v', hv, rfl, rfl⟩ := h
      have h1 := hev c (by simp [Op.operands]) _ hc
      rw [conc_lit] at h1
      refine Done.same hR ?_ (hev b (by simp [Op.operands]) _ hv)
      simp only [execOp, ← Option.some.inj h1]
      rfl
    · cases h
  | alloc t =>
    simp only [xop] at h
    split at h
    · rename_i c hc
      cases h
      exact done_alloc hR (fresh_new hf rfl) hc
    · cases h
  | box t x =>
    simp only [xop] at h
    split at h
    · rename_i v' hv
      cases h
      exact done_box hR (fresh_new hf rfl) (hev x (by simp [Op.operands]) _ hv)
    · cases h
  | build t parts => exact done_build hR (fun p hp => hev p.2 (by simp only [Op.operands, List.mem_toArray, List.mem_map]; simpa using ⟨p.1, by simpa using hp⟩)) h rfl
  | buildSlice t len parts => exact done_buildSlice hR hf (fun p hp => hev p.2 (by simp only [Op.operands, List.mem_toArray, List.mem_map]; simpa using ⟨p.1, by simpa using hp⟩)) h rfl
  | insert t m k x => exact done_mapUpdate hR (hev m (by simp [Op.operands])) (hev k (by simp [Op.operands])) (hev x (by simp [Op.operands])) h rfl
  | mapUpdate t m k x => exact done_mapUpdate hR (hev m (by simp [Op.operands])) (hev k (by simp [Op.operands])) (hev x (by simp [Op.operands])) h rfl
  | load t a =>
    simp only [xop] at h
    split at h
    · rename_i p hp
      simp only [Option.map_eq_some_iff, Prod.mk.injEq] at h
      obtain ⟨v', hv, rfl, rfl⟩ := h
      exact done_load hR (hev a (by simp [Op.operands]) _ hp) hv
    · cases h
  | store t a x =>
    simp only [xop] at h
    split at h
    · rename_i p y hp hy
      simp only [Option.map_eq_some_iff, Prod.mk.injEq] at h
      obtain ⟨s1, hs, rfl, rfl⟩ := h
      exact done_store hR (hev a (by simp [Op.operands]) _ hp) (hev x (by simp [Op.operands]) _ hy) hs
    · cases h
  | nilCheck x => exact done_nilCheck hR (hev x (by simp [Op.operands])) h rfl
  | binOp op t x y yt => exact done_binOp hR (hev x (by simp [Op.operands])) (hev y (by simp [Op.operands])) h rfl
  | unOp op t x =>
    simp only [xop] at h
    split at h
    · rename_i u hu
      simp only [Option.map_eq_some_iff, Prod.mk.injEq] at h
      obtain ⟨c, hc, rfl, rfl⟩ := h
      have := litOf_ok (hev x (by simp [Op.operands])) hu
      subst this
      exact Done.pure hR hc
    · cases h
  | convert src dst x => exact done_convert hR hf (hev x (by simp [Op.operands])) h rfl
  | makeInterface t x =>
    simp only [xop] at h
    split at h
    · rename_i u hu
      simp only [Option.map_eq_some_iff, Prod.mk.injEq] at h
      obtain ⟨c, hc, rfl, rfl⟩ := h
      have := litOf_ok (hev x (by simp [Op.operands])) hu
      subst this
      exact Done.pure hR hc
    · split at h
      · rename_i a d ha hd
        split at h
        · rename_i hi
          cases h
          have hx := hev x (by simp [Op.operands]) a ha
          refine Done.same hR (cv := .iface t (e x)) ?_ (by simp [conc, hx])
          have hm : (Instr.makeInterface t (e x)).run cx.P w = .ok (.iface t (e x)) w := by
            simp only [Instr.makeInterface, Sem.run_bind, underlying_ok hd, Result.andThen_ok]
            cases d <;> first | rfl | cases hi
          show (do Pure.pure (.value (← Instr.makeInterface t (e x))) : Sem Next).run cx.P w = _
          rw [Sem.run_bind, hm]
          rfl
        · cases h
      · cases h
  | typeAssert x t asserted ok => exact done_typeAssert hR (hev x (by simp [Op.operands])) h rfl
  | makeFunc f first caps =>
    simp only [xop] at h
    split at h
    · rename_i cs hfirst hcs
      cases h
      exact done_makeFunc hR hfirst hcs (fun x hx => hev x (by simp [Op.operands]; exact .inr (by simpa using hx)))
    · cases h
  | makeMap t r =>
    simp only [xop] at h
    split at h
    · split at h
      · cases h
        exact done_makeMap hR (fresh_new hf rfl) (by simp [Instr.makeMap])
      · cases h
    · rename_i x
      split at h
      · rename_i k n key elem hl hu
        cases h
        have := litOf_ok (hev x (by simp [Op.operands])) hl
        refine done_makeMap hR (fresh_new hf rfl) ?_
        simp [Instr.makeMap, this, underlying_ok hu, asInt, asIntOf]
      · cases h
  | makeSlice t l c =>
    simp only [xop] at h
    split at h
    · rename_i elem len cap hu hl hc
      split at h
      · rename_i i z hi hz
        split at h
        · rename_i hchk
          simp only [Bool.and_eq_true] at hchk
          obtain ⟨⟨⟨k1, k2⟩, k3⟩, k4⟩ := hchk
          cases h
          obtain ⟨kl, el⟩ := asNat_ok (hev l (by simp [Op.operands])) hl
          obtain ⟨kc, ec⟩ := asNat_ok (hev c (by simp [Op.operands])) hc
          have := done_makeSlice (cx := cx) (kl := kl) (kc := kc) hR (fresh_new hf rfl) hu hi hz (ble_le k1) (ble_le k2) (beq_eq k3) (ble_le k4)
          show Done cx B (do Pure.pure (.value (← Instr.makeSlice t (e l) (e c)))) ρ w s _ _
          rw [el, ec]
          exact this
        · cases h
      · cases h
    · cases h
  | slice t x lo hi mx =>
    exact done_slice hR (hev x (by simp [Op.operands])) h rfl (fun o ho => hev o (by subst ho; simp [Op.operands])) (fun o ho => hev o (by subst ho; simp [Op.operands])) (fun o ho => hev o (by subst ho; simp [Op.operands]))
  | fieldAddr t x f => exact done_fieldAddr hR (hev x (by simp [Op.operands])) h rfl
  | field t x f => exact done_field hR (hev x (by simp [Op.operands])) h rfl
  | indexAddr t x ix => exact done_indexAddr hR (hev x (by simp [Op.operands])) (hev ix (by simp [Op.operands])) h rfl
  | index t x ix => exact done_index hR (hev x (by simp [Op.operands])) (hev ix (by simp [Op.operands])) h rfl
  | lookup t x ix ok => exact done_lookup hR (hev x (by simp [Op.operands])) (hev ix (by simp [Op.operands])) h rfl
  | range t x => exact done_range hR hf (hev x (by simp [Op.operands])) h rfl
  | next it iss => exact done_next hR (hev it (by simp [Op.operands])) h rfl
  | extract t ix => exact done_extract hR (hev t (by simp [Op.operands])) h rfl
  | _ => simp [xop] at h
end
end Go.Proofs.YtdkkblkbonjjgabGreatDoor.Ev

namespace Go.Proofs.YtdkkblkbonjjgabGreatDoor.Ev
open Go
variable [Env]
section
variable {cx : Cx} {B : Nat} {ρ : Nm} {w : World} {s s' : St} {v : SV}

theorem concs_one {x : SV} {us : List Value} (h : concs ρ [x] = some us) : ∃ u, us = [u] ∧ conc ρ x = some u := by
  obtain ⟨u, l, h1, h2, rfl⟩ := concs_cons_iff.1 h
  simp only [concs, Option.some.injEq] at h2
  subst h2
  exact ⟨u, rfl, h1⟩
theorem concs_two {x y : SV} {us : List Value} (h : concs ρ [x, y] = some us) : ∃ u t, us = [u, t] ∧ conc ρ x = some u ∧ conc ρ y = some t := by
  obtain ⟨u, l, h1, h2, rfl⟩ := concs_cons_iff.1 h
  obtain ⟨t, rfl, h3⟩ := concs_one h2
  exact ⟨u, t, rfl, h1, h3⟩

theorem mapM_toValue : ∀ {l : List SV} {ws us : List Value}, l.mapM SV.toValue? = some ws → concs ρ l = some us → ws = us
  | [], ws, us, h, hu => by
    simp at h
    simp only [concs, Option.some.injEq] at hu
    rw [h, ← hu]
  | x :: xs, ws, us, h, hu => by
    obtain ⟨u, l, h1, h2, rfl⟩ := concs_cons_iff.1 hu
    simp only [List.mapM_cons, Option.bind_eq_bind, Option.pure_def] at h
    cases hx : x.toValue? with
    | none => simp [hx] at h
    | some y =>
      cases hr : xs.mapM SV.toValue? with
      | none => simp [hx, hr] at h
      | some ys =>
        simp [hx, hr] at h
        subst h
        have := toValue_conc ρ x y hx
        rw [h1] at this
        cases this
        rw [mapM_toValue hr h2]

theorem bind_under {argTypes : Array TypeId} {j : Nat} {P : Program} {d : TypeDesc} (h : (argTypes[j]?).bind P.underlying = some d) : ∃ t, argTypes[j]? = some t ∧ P.underlying t = some d := by
  cases ht : argTypes[j]? with
  | none => simp [ht] at h
  | some t => exact ⟨t, rfl, by simpa [ht] using h⟩

theorem symMin_ok {fs : List Fact} (hf : ∀ f ∈ fs, f.holds) {l : List SV} {r : SV} (h : symMin fs l = some r) {us : List Value} (hu : concs ρ l = some us) (ats : Array TypeId) (ty : TypeId) (P : Program) (w : World) :
    ∃ cv, (Builtin.min_ ats ty us.toArray).run P w = .ok cv w ∧ conc ρ r = some cv := by
  unfold symMin at h
  split at h
  · obtain ⟨u, t, rfl, hx, hy⟩ := concs_two hu
    split at h
    · rename_i k i k' j hi hj
      rw [symInt_ok hi] at hx
      rw [symInt_ok hj] at hy
      cases hx; cases hy
      split at h
      · rename_i hd
        cases h
        have hd := of_decide_eq_true (ltD_ok hf hd)
        exact ⟨_, by simp [Builtin.min_, Builtin.min2, hd]; rfl, by simp [conc]⟩
      · rename_i hd
        cases h
        have hd := of_decide_eq_false (ltD_ok hf hd)
        exact ⟨_, by simp [Builtin.min_, Builtin.min2, hd]; rfl, by simp [conc]⟩
      · cases h
    · cases h
  · cases h
theorem symMax_ok {fs : List Fact} (hf : ∀ f ∈ fs, f.holds) {l : List SV} {r : SV} (h : symMax fs l = some r) {us : List Value} (hu : concs ρ l = some us) (ats : Array TypeId) (ty : TypeId) (P : Program) (w : World) :
    ∃ cv, (Builtin.max_ ats ty us.toArray).run P w = .ok cv w ∧ conc ρ r = some cv := by
  unfold symMax at h
  split at h
  · obtain ⟨u, t, rfl, hx, hy⟩ := concs_two hu
    split at h
    · rename_i k i k' j hi hj
      rw [symInt_ok hi] at hx
      rw [symInt_ok hj] at hy
      cases hx; cases hy
      split at h
      · rename_i hd
        cases h
        have hd := of_decide_eq_true (ltD_ok hf hd)
        exact ⟨_, by simp [Builtin.max_, Builtin.max2, hd]; rfl, by simp [conc]⟩
      · rename_i hd
        cases h
        have hd := of_decide_eq_false (ltD_ok hf hd)
        exact ⟨_, by simp [Builtin.max_, Builtin.max2, hd]; rfl, by simp [conc]⟩
      · cases h
    · cases h
  · cases h

theorem freeze_upd {w : World} {g : Nat} {l : List Value} {e : TypeId} {fz : Nat × Nat} (h : w.heap[g]? = some (.cells l.toArray e fz)) (n : Nat) : ∃ fz', Upd w (w.freeze ⟨g, 0, none⟩ n) g (.cells l.toArray e fz') := by
  unfold World.freeze
  split
  · exact ⟨_, rfl, h, fun _ _ => rfl, rfl, rfl, rfl⟩
  · exact ⟨_, by simp, by rw [Array.getElem?_modify, if_pos rfl, h]; rfl, fun k hk => by rw [Array.getElem?_modify, if_neg (Ne.symm hk)], rfl, rfl, rfl⟩

theorem bytesIn_ok : ∀ {l : List SV} {bs : List UInt8} {us : List Value}, bytesIn? l = some bs → concs ρ l = some us → us = bs.map fun b => Value.int .u8 b.toNat
  | [], bs, us, h, hu => by
    simp only [bytesIn?, Option.some.injEq] at h
    simp only [concs, Option.some.injEq] at hu
    subst h; subst hu
    rfl
  | x :: l, bs, us, h, hu => by
    obtain ⟨u, us', h1, h2, rfl⟩ := concs_cons_iff.1 hu
    simp only [bytesIn?] at h
    split at h
    · rename_i n bs' hb
      split at h
      · rename_i m
        split at h
        · rename_i hm
          cases h
          have hm := blt_lt hm
          rw [bytesIn_ok hb h2]
          rw [conc_lit] at h1
          cases h1
          have : (UInt8.ofNat m).toNat = m := by simp [UInt8.toNat_ofNat']; omega
          simp [this]
        · cases h
      · cases h
    · cases h

theorem rowText_ok (hR : Rel cx B ρ w s) {pt it ty : TypeId} {n len : Nat} {bs : List UInt8} (h : rowText cx.P s pt n len = some bs) :
    ∃ g c o w' ob o', s.see n = some o ∧ ρ n = some (g, c) ∧ Upd w w' g ob ∧ s.frost n = s.set n o' ∧ ORel ρ c o' ob ∧ (Builtin.unsafeString_ #[pt, it] ty #[.pointer (some ⟨g, 0, none⟩), .int .i64 (len : Int)]).run cx.P w = .ok (.string ⟨bs.toArray⟩) w' := by
  have key : ∀ {e e' : TypeId} {cs : List SV} {g : Nat} {l : List Value} {fz : Nat × Nat} {us rest : List Value}, cx.P.underlying pt = some (.pointer e) → (Nat.beq e e' && Nat.beq (cx.P.cellsOf e) 1 && Nat.blt 0 len && Nat.ble len cs.length && Nat.ble len 9223372036854775807) = true →
      bytesIn? (cs.take len) = some bs → concs ρ cs = some us → l = us ++ rest → w.heap[g]? = some (.cells l.toArray e' fz) →
      ∃ w' fz', Upd w w' g (.cells l.toArray e' fz') ∧ (Builtin.unsafeString_ #[pt, it] ty #[.pointer (some ⟨g, 0, none⟩), .int .i64 (len : Int)]).run cx.P w = .ok (.string ⟨bs.toArray⟩) w' := by
    intro e e' cs g l fz us rest hu hc hb hus hl hh
    simp only [Bool.and_eq_true] at hc
    obtain ⟨⟨⟨⟨c1, c2⟩, c3⟩, c4⟩, c5⟩ := hc
    have c1 := beq_eq c1
    have c2 := beq_eq c2
    have c3 := blt_lt c3
    have c4 := ble_le c4
    have c5 := ble_le c5
    subst c1
    have hbs := bytesIn_ok hb (concs_take len hus)
    have hlen := concs_length hus
    have hbl : bs.length = len := by
      have := congrArg List.length hbs
      simp at this
      omega
    obtain ⟨ob, hup⟩ := freeze_upd hh bs.length
    refine ⟨_, ob, hup, ?_⟩
    rw [← hbl]
    refine Go.Lib.run_unsafeString_row w pt it ty e hu c2 g l.length (by simp [World.shape?, hh]) bs (by intro e0; rw [e0] at hbl; simp at hbl; omega) (by rw [hbl, hl]; simp; omega) (by rw [hbl]; exact c5) ?_
    intro j x hj
    rw [addr_add, Nat.zero_add, cell_at hh, hl]
    have hjl : j < bs.length := (List.getElem?_eq_some_iff.1 hj).1
    rw [List.getElem?_append_left (by omega)]
    have h2 : (us.take len)[j]? = some (.int .u8 x.toNat) := by rw [hbs]; simp [hj]
    rw [List.getElem?_take] at h2
    split at h2
    · exact h2
    · cases h2
  unfold rowText at h
  split at h
  · rename_i e c e' sz hu hs
    split at h
    · rename_i hc
      obtain ⟨g, cap, ob, q1, _, q3, vs, rest, fz, q4, rfl, _, q7⟩ := hR.obj n _ hs
      obtain ⟨w', fz', r1, r2⟩ := key hu hc h q4 rfl q3
      exact ⟨g, cap, _, w', _, .row c e' sz, hs, q1, r1, by simp [St.frost, hs], ⟨vs, rest, fz', q4, rfl, .inr q7⟩, r2⟩
    · cases h
  · rename_i e c e' sz hu hs
    split at h
    · rename_i hc
      obtain ⟨g, cap, ob, q1, _, q3, vs, rest, fz, q4, rfl, q7⟩ := hR.obj n _ hs
      obtain ⟨w', fz', r1, r2⟩ := key hu hc h q4 rfl q3
      exact ⟨g, cap, _, w', _, .row c e' sz, hs, q1, r1, by simp [St.frost, hs], ⟨vs, rest, fz', q4, rfl, q7⟩, r2⟩
    · cases h
  · rename_i e c e' hu hs
    split at h
    · rename_i hc
      obtain ⟨g, cap, ob, q1, _, q3, vs, fz, q4, rfl, _⟩ := hR.obj n _ hs
      obtain ⟨w', fz', r1, r2⟩ := key hu hc h q4 (List.append_nil _).symm q3
      exact ⟨g, cap, _, w', _, .row c e' 0, hs, q1, r1, by simp [St.frost, hs], ⟨vs, [], fz', q4, by rw [List.append_nil], .inl rfl⟩, r2⟩
    · cases h
  · cases h

theorem xbuiltin_ok (hR : Rel cx B ρ w s) (hf : Fresh ρ s.next s'.next) {b : Builtin} {argTypes : Array TypeId} {type : TypeId} {consts : Array Bool} {args : List SV} {us : List Value} (ha : concs ρ args = some us)
    (h : xbuiltin cx s b argTypes type args = some (v, s')) : Done cx B (Go.builtin b argTypes type consts us.toArray) ρ w s s' v := by
  unfold xbuiltin at h
  split at h
  · -- append
    obtain ⟨u, t, rfl, hx, hy⟩ := concs_two ha
    split at h
    · rename_i elem e1 h0 h1
      obtain ⟨t0, a1, a2⟩ := bind_under h0
      obtain ⟨t1, b1, b2⟩ := bind_under h1
      exact done_append hR hf a1 b1 b2 (fun _ hh => by cases hh) a2 hx hy h
    · rename_i elem h0 h1
      obtain ⟨t0, a1, a2⟩ := bind_under h0
      obtain ⟨t1, b1, b2⟩ := bind_under h1
      exact done_append hR hf a1 b1 b2 (fun _ hh => by cases hh) a2 hx hy h
    · cases h
  · -- len
    obtain ⟨u, rfl, hx⟩ := concs_one ha
    split at h
    · rename_i el n off len cap h0
      cases h
      obtain ⟨t0, a1, a2⟩ := bind_under h0
      simp only [conc, Option.map_eq_some_iff] at hx
      obtain ⟨p, _, hp⟩ := hx
      refine Done.same hR ?_ (conc_lit _ _)
      simp only [Go.builtin, ← hp]
      simp [Builtin.len_, a1, underlying_ok a2]
    · rename_i el n off len cap h0
      cases h
      obtain ⟨t0, a1, a2⟩ := bind_under h0
      simp only [conc, Option.map_eq_some_iff] at hx
      obtain ⟨p, _, hp⟩ := hx
      refine Done.same hR ?_ (conc_lit _ _)
      simp only [Go.builtin, ← hp]
      simp [Builtin.len_, a1, underlying_ok a2]
    · rename_i k el n h0
      split at h
      · rename_i kt es hs
        cases h
        obtain ⟨t0, a1, a2⟩ := bind_under h0
        obtain ⟨b, cap, ob, h1, _, h3, l, lst, clk, h4, rfl, h5⟩ := hR.obj n _ hs
        simp only [conc, h1, Option.map_some, Option.some.injEq] at hx
        refine Done.same hR ?_ (conc_lit _ _)
        have hl : lst.length = es.length := by rw [← kvs_length h4, ← h5.length_eq, List.length_map]
        simp only [Go.builtin, ← hx]
        simp [Builtin.len_, a1, underlying_ok a2, run_getObj_map h3, hl]
      · cases h
    · rename_i se h0
      cases h
      obtain ⟨t0, a1, a2⟩ := bind_under h0
      simp only [conc, Option.some.injEq] at hx
      refine Done.same hR (cv := .int .i64 (IE.den (.len se))) ?_ (by simp [conc])
      simp only [Go.builtin, ← hx]
      simp [Builtin.len_, a1, underlying_ok a2, IE.den, goInt]
    · split at h
      · rename_i u' hu
        simp only [Option.map_eq_some_iff, Prod.mk.injEq] at h
        obtain ⟨c, hc, rfl, rfl⟩ := h
        have := toValue_conc ρ _ u' hu
        rw [hx] at this
        cases this
        exact Done.pure hR hc
      · cases h
  · -- cap
    obtain ⟨u, rfl, hx⟩ := concs_one ha
    split at h
    · rename_i el n off len cap h0
      cases h
      obtain ⟨t0, a1, a2⟩ := bind_under h0
      simp only [conc, Option.map_eq_some_iff] at hx
      obtain ⟨p, _, hp⟩ := hx
      refine Done.same hR ?_ (conc_lit _ _)
      simp only [Go.builtin, ← hp]
      simp [Builtin.cap_, a1, underlying_ok a2]
    · split at h
      · rename_i u' hu
        simp only [Option.map_eq_some_iff, Prod.mk.injEq] at h
        obtain ⟨c, hc, rfl, rfl⟩ := h
        have := toValue_conc ρ _ u' hu
        rw [hx] at this
        cases this
        exact Done.pure hR hc
      · cases h
  · -- copy
    obtain ⟨u, t, rfl, hx, hy⟩ := concs_two ha
    split at h
    · rename_i elem n off dl cap h0
      split at h
      · rename_i size a sl hs hsl
        split at h
        · rename_i c hl
          split at h
          · rename_i s1 hc hset
            cases h
            obtain ⟨t0, a1, a2⟩ := bind_under h0
            obtain ⟨b0, off0, vs, p1, p2, p3, p4⟩ := loadFrom_ok hR hl
            obtain ⟨g, c', w', q1, q2, q3, q4⟩ := setCells_ok hR hset p2 (isCells_ok p2 hc)
            rw [conc_sl q1] at hx
            cases hx
            have ht : ∃ cap', t = .slice (some ⟨b0, off0, none⟩) sl cap' := by
              unfold sliceLen at hsl
              split at hsl
              · cases hsl
                simp only [conc, Option.map_eq_some_iff] at hy p1
                obtain ⟨p, e1, rfl⟩ := hy
                obtain ⟨p', e2, e3⟩ := p1
                rw [e1] at e2
                cases e2
                cases e3
                exact ⟨_, rfl⟩
              · cases hsl
                simp only [conc, Option.map_eq_some_iff] at hy p1
                obtain ⟨p, e1, rfl⟩ := hy
                obtain ⟨p', e2, e3⟩ := p1
                rw [e1] at e2
                cases e2
                cases e3
                exact ⟨_, rfl⟩
              · cases hsl
            obtain ⟨cap', rfl⟩ := ht
            refine ⟨ρ, w', _, .inl ?_, conc_lit _ _, q3, q4⟩
            have p3' : vs.length = Nat.min sl dl * size := p3
            have hrun : (loadCells ⟨b0, off0, none⟩ (Nat.min sl dl * size)).run cx.P w = .ok vs.toArray w := by
              rw [← p3']
              exact run_cells p4
            simp only [Go.builtin, Builtin.copy_, a1, List.getElem?_toArray, List.getElem?_cons_zero, List.getElem?_cons_succ, Sem.run_bind, underlying_ok a2, Result.andThen_ok, Builtin.lenOf, Sem.run_pure, size_ok hs, Builtin.firstCells, hrun, q2]
          · cases h
        · cases h
      · cases h
    · cases h
  · -- unsafe.SliceData
    obtain ⟨u, rfl, hx⟩ := concs_one ha
    split at h
    · cases h
      rw [conc_lit] at hx
      cases hx
      exact Done.same hR (by simp only [Go.builtin, Sem.run_bind, Go.Lib.run_unsafeSliceData_nil, Result.andThen_ok, Sem.run_pure]) (conc_lit _ _)
    · cases h
      simp only [conc, Option.map_eq_some_iff] at hx
      obtain ⟨p, q1, rfl⟩ := hx
      exact Done.same hR (by simp only [Go.builtin, Sem.run_bind, Go.Lib.run_unsafeSliceData_row _ _ _ _ _ _ (Nat.succ_ne_zero _), Result.andThen_ok, Sem.run_pure]) (conc_ptr q1)
    · rename_i n off len k
      split at h
      · rename_i c e sz hs
        split at h
        · rename_i hc
          cases h
          simp only [Bool.and_eq_true] at hc
          have c1 : c.length = (len + 1 + k) * sz := beq_eq hc.1
          have c2 := blt_lt hc.2
          obtain ⟨g, cap, ob, q1, _, q3, vs, rest, fz, q4, rfl, _, q7⟩ := hR.obj n _ hs
          have q8 := concs_length q4
          have hcap : len + 1 + k ≤ cap := by
            have : (len + 1 + k) * sz ≤ cap * sz := by omega
            exact Nat.le_of_mul_le_mul_right this c2
          simp only [conc, q1, Option.map_some, Option.some.injEq] at hx
          subst hx
          exact Done.same hR (by simp only [Go.builtin, Sem.run_bind, Go.Lib.run_unsafeSliceData_row _ _ _ _ _ _ (show cap - k ≠ 0 by omega), Result.andThen_ok, Sem.run_pure]) (conc_ptr q1)
        · cases h
      · rename_i c e sz hs
        split at h
        · rename_i hc
          cases h
          simp only [Bool.and_eq_true] at hc
          have c1 : c.length = (len + 1 + k) * sz := beq_eq hc.1
          have c2 := blt_lt hc.2
          obtain ⟨g, cap, ob, q1, _, q3, vs, rest, fz, q4, rfl, q7⟩ := hR.obj n _ hs
          have q7 : vs.length + rest.length = cap * sz := q7.resolve_left (by omega)
          have q8 := concs_length q4
          have hcap : len + 1 + k ≤ cap := by
            have : (len + 1 + k) * sz ≤ cap * sz := by omega
            exact Nat.le_of_mul_le_mul_right this c2
          simp only [conc, q1, Option.map_some, Option.some.injEq] at hx
          subst hx
          exact Done.same hR (by simp only [Go.builtin, Sem.run_bind, Go.Lib.run_unsafeSliceData_row _ _ _ _ _ _ (show cap - k ≠ 0 by omega), Result.andThen_ok, Sem.run_pure]) (conc_ptr q1)
        · cases h
      · cases h
    · cases h
  · -- unsafe.String
    obtain ⟨u, t, rfl, hx, hy⟩ := concs_two ha
    split at h
    · rename_i pt it len hpt hit hsz
      have hats : argTypes = #[pt, it] := by
        apply Array.ext'
        have e1 : argTypes.toList[0]? = some pt := by simpa using hpt
        have e2 : argTypes.toList[1]? = some it := by simpa using hit
        have e3 : argTypes.toList.length = 2 := by simpa using hsz
        match hl : argTypes.toList, e1, e2, e3 with
        | [a, b], e1, e2, _ => simp at e1 e2; rw [e1, e2]
      rw [conc_lit] at hy
      cases hy
      subst hats
      split at h
      · cases h
        rw [conc_lit] at hx
        cases hx
        exact Done.same hR (by simp only [Go.builtin, Sem.run_bind]; rw [show (Int.ofNat 0) = (0 : Int) from rfl, Go.Lib.run_unsafeString_none]; rfl) (conc_lit _ _)
      · cases h
        simp only [conc, Option.map_eq_some_iff] at hx
        obtain ⟨p, q1, rfl⟩ := hx
        exact Done.same hR (by simp only [Go.builtin, Sem.run_bind]; rw [show (Int.ofNat 0) = (0 : Int) from rfl, Go.Lib.run_unsafeString_none]; rfl) (conc_lit _ _)
      · split at h
        · rename_i bs hb
          cases h
          obtain ⟨g, c, o, w', ob, o', r1, r2, r3, r5, r6, r4⟩ := rowText_ok (it := it) (ty := type) hR hb
          rw [conc_ptr r2] at hx
          cases hx
          rw [r5]
          obtain ⟨k1, k2⟩ := set_ok hR r1 r2 r3 o' r6
          refine ⟨ρ, w', _, .inl ?_, conc_lit _ _, k1, k2⟩
          simp only [Go.builtin, Sem.run_bind]
          rw [show (Int.ofNat (_ + 1)) = ((_ + 1 : Nat) : Int) from rfl, r4]
          rfl
        · cases h
      · cases h
    · cases h
  · -- min
    split at h
    · rename_i ws hws
      simp only [Option.map_eq_some_iff, Prod.mk.injEq] at h
      obtain ⟨c, hc, rfl, rfl⟩ := h
      have := mapM_toValue hws ha
      subst this
      exact Done.pure hR hc
    · simp only [Option.map_eq_some_iff, Prod.mk.injEq] at h
      obtain ⟨c, hc, rfl, rfl⟩ := h
      obtain ⟨cv, q1, q2⟩ := symMin_ok cx.fok hc ha argTypes type cx.P w
      exact Done.same hR (by simp only [Go.builtin, Sem.run_bind, q1, Result.andThen_ok, Sem.run_pure]) q2
  · -- max
    split at h
    · rename_i ws hws
      simp only [Option.map_eq_some_iff, Prod.mk.injEq] at h
      obtain ⟨c, hc, rfl, rfl⟩ := h
      have := mapM_toValue hws ha
      subst this
      exact Done.pure hR hc
    · simp only [Option.map_eq_some_iff, Prod.mk.injEq] at h
      obtain ⟨c, hc, rfl, rfl⟩ := h
      obtain ⟨cv, q1, q2⟩ := symMax_ok cx.fok hc ha argTypes type cx.P w
      exact Done.same hR (by simp only [Go.builtin, Sem.run_bind, q1, Result.andThen_ok, Sem.run_pure]) q2
  · cases h
end
end Go.Proofs.YtdkkblkbonjjgabGreatDoor.Ev
