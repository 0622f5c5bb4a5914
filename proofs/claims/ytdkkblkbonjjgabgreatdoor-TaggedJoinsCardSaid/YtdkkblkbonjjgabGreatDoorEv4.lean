/- The reckoner: steps of the machine; regions in the order of the text; what is kept. Conditions: those of each lemma. -/
import Derived.Test.YtdkkblkbonjjgabGreatDoorEv3
set_option linter.unusedSectionVars false
namespace Go.Proofs.YtdkkblkbonjjgabGreatDoor.Ev
open Go
variable [Env]

/-- A frame that runs. -/
def fr (f : FuncId) (tmps : Array Value) (todo : List Item) (ds : List Deferred) (ro : Option Nat) : Frame :=
  { fn := f, tmps := tmps, todo := todo, defers := ds, mode := .run, kind := .normal, roundOf := ro }

/-- The slots behind an operation. -/
def putA (tmps : Array Value) (dst : Option Tmp) (v : Value) : Array Value := match dst with
  | some d => tmps.setIfInBounds d v
  | none => tmps

section
variable {P : Program} {f : FuncId} {tmps : Array Value} {k : List Item} {ds : List Deferred} {ro : Option Nat} {cs : List Frame} {w : World}

theorem st_skip : step P (lone (fr f tmps (.code .skip :: k) ds ro) cs w) = .next (lone (fr f tmps k ds ro) cs w) := step_lone_go (by simp [stepG, stepG.exec, fr])
theorem st_label {l : Nat} : step P (lone (fr f tmps (.code (.label l) :: k) ds ro) cs w) = .next (lone (fr f tmps k ds ro) cs w) := step_lone_go (by simp [stepG, stepG.exec, fr])
theorem st_inBlock {id : Nat} : step P (lone (fr f tmps (.inBlock id :: k) ds ro) cs w) = .next (lone (fr f tmps k ds ro) cs w) := step_lone_go (by simp [stepG, stepG.exec, fr])
theorem st_inScope {c : Code} : step P (lone (fr f tmps (.inScope c :: k) ds ro) cs w) = .next (lone (fr f tmps k ds ro) cs w) := step_lone_go (by simp [stepG, stepG.exec, fr])
theorem st_seq {x y : Code} : step P (lone (fr f tmps (.code (.seq x y) :: k) ds ro) cs w) = .next (lone (fr f tmps (.code x :: .code y :: k) ds ro) cs w) := step_lone_go (by simp [stepG, stepG.exec, fr])
theorem st_cond {c : Operand} {x y : Code} {t : Bool} (h : (fr f tmps [] ds ro).eval c = .bool t) :
    step P (lone (fr f tmps (.code (.cond c x y) :: k) ds ro) cs w) = .next (lone (fr f tmps (.code (if t then x else y) :: k) ds ro) cs w) := by
  have h' : (fr f tmps (.code (.cond c x y) :: k) ds ro).eval c = .bool t := by cases c <;> exact h
  simp only [fr] at h'
  exact step_lone_go (by simp [stepG, stepG.exec, fr, h'])
theorem st_block {id : Nat} {c : Code} : step P (lone (fr f tmps (.code (.block id c) :: k) ds ro) cs w) = .next (lone (fr f tmps (.code c :: .inBlock id :: k) ds ro) cs w) := step_lone_go (by simp [stepG, stepG.exec, fr])
theorem st_loop {c : Code} : step P (lone (fr f tmps (.code (.loop c) :: k) ds ro) cs w) = .next (lone (fr f tmps (.code c :: .inLoop c :: k) ds ro) cs w) := step_lone_go (by simp [stepG, stepG.exec, fr])
theorem st_inLoop {c : Code} : step P (lone (fr f tmps (.inLoop c :: k) ds ro) cs w) = .next (lone (fr f tmps (.code c :: .inLoop c :: k) ds ro) cs w) := step_lone_go (by simp [stepG, stepG.exec, fr])
theorem st_scope {c : Code} : step P (lone (fr f tmps (.code (.scope c) :: k) ds ro) cs w) = .next (lone (fr f tmps (.code c :: .inScope c :: k) ds ro) cs w) := step_lone_go (by simp [stepG, stepG.exec, fr])
theorem st_exit {id : Nat} {k' : List Item} (h : Go.exitTo id k = some k') : step P (lone (fr f tmps (.code (.exit id) :: k) ds ro) cs w) = .next (lone (fr f tmps k' ds ro) cs w) := step_lone_go (by simp [stepG, stepG.exec, fr, h])
theorem st_region {id : Nat} {ops : Array Oper} : step P (lone (fr f tmps (.code (.region id ops false) :: k) ds ro) cs w) = .next (lone (fr f tmps (.inRegion ops (List.range ops.size) :: k) ds ro) cs w) := step_lone_go (by simp [stepG, stepG.exec, fr])
theorem st_region_draw {id : Nat} {ops : Array Oper} :
    step P (lone (fr f tmps (.code (.region id ops true) :: k) ds ro) cs w) = .next (lone (fr f tmps (.inRegion ops (Region.schedule (P.follows .mixedOrders) ops (w.tape w.drawn (.order f id))) :: k) ds ro) cs { w with drawn := w.drawn + 1 }) :=
  step_lone_go (by simp [stepG, stepG.exec, fr, choose, Sem.run, Question.forced, Question.cut])
theorem st_region_end {ops : Array Oper} : step P (lone (fr f tmps (.inRegion ops [] :: k) ds ro) cs w) = .next (lone (fr f tmps k ds ro) cs w) := step_lone_go (by simp [stepG, stepG.exec, fr])

theorem fr_finish {ops : Array Oper} {i : Nat} {rest : List Nat} {o : Oper} (ho : ops[i]? = some o) (v : Value) :
    (fr f tmps (.inRegion ops (i :: rest) :: k) ds ro).finish v = fr f (putA tmps o.dst v) (.inRegion ops rest :: k) ds ro := by
  simp only [Frame.finish, fr, ho, Option.bind_some, putA]
  cases o.dst <;> rfl

theorem st_op_skip {ops : Array Oper} {i : Nat} {rest : List Nat} {o : Oper} (ho : ops[i]? = some o) (hw : Region.wanted o (Go.yielded ops tmps) = false) :
    step P (lone (fr f tmps (.inRegion ops (i :: rest) :: k) ds ro) cs w) = .next (lone (fr f (putA tmps o.dst undef) (.inRegion ops rest :: k) ds ro) cs w) := by
  rw [← fr_finish ho]
  simp only [fr]
  exact step_lone_go (by simp [stepG, stepG.exec, ho, hw])

/-- An operation that is no 'defer'. -/
def plainOp : Op → Bool
  | .defer _ => false
  | _ => true

theorem stepG_fr {ops : Array Oper} {i : Nat} {rest : List Nat} {o : Oper} (ho : ops[i]? = some o) (hw : Region.wanted o (Go.yielded ops tmps) = true) (hp : plainOp o.op = true) :
    stepG P true { frame := fr f tmps (.inRegion ops (i :: rest) :: k) ds ro, callers := cs, status := .running, dying := none } w =
      stepG.apply P true (fr f tmps (.inRegion ops (i :: rest) :: k) ds ro) cs none (execOp (fr f tmps [] ds ro).eval o) w := by
  have he : (fr f tmps (.inRegion ops (i :: rest) :: k) ds ro).eval = (fr f tmps [] ds ro).eval := by funext x; cases x <;> rfl
  simp only [stepG, stepG.exec, fr, stepG.oper, Frame.oper?, ho, hw, Option.map_some, Option.getD_some, if_true]
  simp only [fr] at he
  cases ro with
  | none => rw [he]
  | some l =>
    obtain ⟨dst, op, type, pos, after, guard⟩ := o
    cases op <;> first
      | (simp [plainOp] at hp; done)
      | rw [he]

theorem st_op_value {ops : Array Oper} {i : Nat} {rest : List Nat} {o : Oper} (ho : ops[i]? = some o) (hw : Region.wanted o (Go.yielded ops tmps) = true) (hp : plainOp o.op = true) {v : Value} {w' : World}
    (hr : (execOp (fr f tmps [] ds ro).eval o).run P w = .ok (.value v) w' ∨ (execOp (fr f tmps [] ds ro).eval o).run P w = .ok .skip w' ∧ v = undef) :
    step P (lone (fr f tmps (.inRegion ops (i :: rest) :: k) ds ro) cs w) = .next (lone (fr f (putA tmps o.dst v) (.inRegion ops rest :: k) ds ro) cs w') := by
  rw [← fr_finish ho]
  refine step_lone_go ?_
  rw [stepG_fr ho hw hp]
  rcases hr with hr | ⟨hr, rfl⟩ <;> simp [stepG.apply, hr]

theorem st_op_enter {ops : Array Oper} {i : Nat} {rest : List Nat} {o : Oper} (ho : ops[i]? = some o) (hw : Region.wanted o (Go.yielded ops tmps) = true) (hp : plainOp o.op = true) {g : FuncId} {args : Array Value} {w' : World}
    (hr : (execOp (fr f tmps [] ds ro).eval o).run P w = .ok (.enter g args) w') :
    step P (lone (fr f tmps (.inRegion ops (i :: rest) :: k) ds ro) cs w) = .next (lone (Frame.enter P g args .normal) (fr f tmps (.inRegion ops (i :: rest) :: k) ds ro :: cs) w') := by
  refine step_lone_go ?_
  rw [stepG_fr ho hw hp]
  simp only [stepG.apply, Sem.runT_eq, hr, if_true, GStep.bare_after]
  rfl

theorem st_op_round {ops : Array Oper} {i : Nat} {rest : List Nat} {o : Oper} (ho : ops[i]? = some o) (hw : Region.wanted o (Go.yielded ops tmps) = true) (hp : plainOp o.op = true) {l : Nat} {g : FuncId} {ts : Array Value} {as body : Code} {w' : World}
    (hr : (execOp (fr f tmps [] ds ro).eval o).run P w = .ok (.round l g ts as body) w') :
    step P (lone (fr f tmps (.inRegion ops (i :: rest) :: k) ds ro) cs w) = .next (lone (Frame.round l g ts as body .normal) (fr f tmps (.inRegion ops (i :: rest) :: k) ds ro :: cs) w') := by
  refine step_lone_go ?_
  rw [stepG_fr ho hw hp]
  simp only [stepG.apply, Sem.runT_eq, hr, if_true, GStep.bare_after]
  rfl

/-- A frame ends. -/
theorem st_ret : step P (lone (fr f tmps (.code .ret :: k) ds none) cs w) = .next (lone { fr f tmps (.code .ret :: k) ds none with mode := .returning } cs w) := step_lone_go (by simp [stepG, stepG.exec, fr])
theorem st_end : step P (lone (fr f tmps [] ds none) cs w) = .next (lone { fr f tmps [] ds none with mode := .returning } cs w) := step_lone_go (by simp [stepG, stepG.exec, fr])
theorem st_taken {todo : List Item} {b : Nat} {w' : World} (hr : (Instr.takeDeferred b).run P w = .ok [] w') :
    step P (lone { fr f tmps todo ({ target := .collected b, args := #[] } :: ds) none with mode := .returning } cs w) = .next (lone { fr f tmps todo ds none with mode := .returning } cs w') :=
  step_lone_go (by simp [stepG, unwind, fr, hr])

/-- A round ends. -/
theorem st_round_end {l : Nat} {c : Frame} {v : Value} {w' : World} (hr : (Instr.endRound l none).run P w = .ok v w') :
    step P (lone (fr f tmps [] [] (some l)) (c :: cs) w) = .next (lone (c.finish v) cs w') :=
  step_lone_go (by simp [stepG, stepG.exec, fr, hr, doReturn])
theorem st_round_ret {l : Nat} {c : Frame} {v : Value} {w' : World} (hr : (Instr.endRound l (some .ret)).run P w = .ok v w') :
    step P (lone (fr f tmps (.code .ret :: k) [] (some l)) (c :: cs) w) = .next (lone (c.finish v) cs w') :=
  step_lone_go (by simp [stepG, stepG.exec, fr, hr, doReturn])
theorem st_round_exit {l id : Nat} {c : Frame} {v : Value} {w' : World} (hx : Go.exitTo id k = none) (hr : (Instr.endRound l (some (.exit id))).run P w = .ok v w') :
    step P (lone (fr f tmps (.code (.exit id) :: k) [] (some l)) (c :: cs) w) = .next (lone (c.finish v) cs w') :=
  step_lone_go (by simp [stepG, stepG.exec, fr, hx, hr, doReturn])
theorem st_beginRound {l : Nat} {w' : World} (hr : (Instr.beginRound l).run P w = .ok () w') :
    step P (lone (fr f tmps (.beginRound :: k) ds (some l)) cs w) = .next (lone (fr f tmps k ds (some l)) cs w') :=
  step_lone_go (by simp [stepG, stepG.exec, stepG.apply, fr, hr, Frame.finish])
theorem st_endRangeFunc {l : Nat} {j : Option Code} {w' : World} (hr : (Instr.endLoop l).run P w = .ok j w') :
    step P (lone (fr f tmps (.endRangeFunc l :: k) ds ro) cs w) = .next (lone (fr f tmps ((j.map Item.code).toList ++ k) ds ro) cs w') :=
  step_lone_go (by simp [stepG, stepG.exec, fr, hr])
theorem fr_finish_loop {l : Nat} (v : Value) : (fr f tmps (.inRangeFunc l :: k) ds ro).finish v = fr f tmps (.endRangeFunc l :: k) ds ro := rfl
theorem st_rangeFunc {fo : Operand} {params : Array Tmp} {as body : Code} {l : Nat} {mark : List Deferred} {w1 w2 : World} {g : FuncId} {args : Array Value} {d : Deferred}
    (h1 : (Instr.enterLoop f tmps params as body ro).run P w = .ok (l, mark) w1)
    (hres : (resolve (fr f tmps [] ds ro).eval { callee := .value fo, args := #[.const (.func (.yield l) #[] #[])], argTypes := #[] } 0).run P w1 = .ok d w1)
    (hinv : (invoke d.target d.args).run P w1 = .ok (.enter g args) w2) :
    step P (lone (fr f tmps (.code (.rangeFunc fo params as body) :: k) ds ro) cs w) = .next (lone (Frame.enter P g args .normal) (fr f tmps (.inRangeFunc l :: k) (mark ++ ds) ro :: cs) w2) := by
  refine step_lone_go ?_
  have he : (fr f tmps (.inRangeFunc l :: k) (mark ++ ds) ro).eval = (fr f tmps [] ds ro).eval := by funext x; cases x <;> rfl
  rw [← he] at hres
  simp only [fr] at hres
  simp [stepG, stepG.exec, fr, h1, stepG.apply, hres, hinv]
end
end Go.Proofs.YtdkkblkbonjjgabGreatDoor.Ev

namespace Go.Proofs.YtdkkblkbonjjgabGreatDoor.Ev
open Go
variable [Env]

/-- What is asked of the program. -/
structure Good (P : Program) : Prop where
  names : ∀ (g : Nat) (fn : Func), P.funcs[g]? = some fn → fn.body.isSome = true → (fn.name == "runtime.NumGoroutine") = false
  mixed : P.follows .mixedOrders = true

def Starts (P : Program) (ρ : Nm) : Task → Frame → Prop
  | .call g args, fm => ∃ us, concs ρ args = some us ∧ fm = Frame.enter P g us.toArray .normal
  | .round l g nt tt as body, fm => ∃ lb lc tmps, ρ l = some (lb, lc) ∧ TRel ρ nt tt tmps ∧ fm = Frame.round lb g tmps as body .normal

def TaskOK (cx : Cx) (B : Nat) (t : Task) (s s' : St) (v : SV) : Prop :=
  (∀ g args, t = .call g args → ∃ fn, cx.P.funcs[g]? = some fn ∧ fn.body.isSome = true) ∧
  ∀ ρ w, Rel cx B ρ w s → Fresh ρ s.next s'.next → ∀ fm, Starts cx.P ρ t fm → ∀ c cs, ∃ ρ' w' cv,
    Steps cx.P (lone fm (c :: cs) w) (lone (c.finish cv) cs w') ∧ conc ρ' v = some cv ∧ Rel cx B ρ' w' s' ∧ Ext s s' ρ ρ' w w'

section
variable {cx : Cx} {B : Nat} {ρ : Nm} {w : World} {s s' : St} {v : SV} {f : FuncId} {tmps : Array Value} {k : List Item} {ds : List Deferred} {ro : Option Nat} {cs : List Frame} {nt : Nat} {tt tt' : T SV}

theorem eval_ok (hT : TRel ρ nt tt tmps) {x : Operand} {sv : SV} (h : eval tt x = some sv) : conc ρ sv = some ((fr f tmps k ds ro).eval x) := by
  cases x with
  | tmp t =>
    obtain ⟨u, h1, h2⟩ := hT.2 t sv h
    rw [h1]
    simp [Frame.eval, fr, h2]
  | const c => simp only [eval, Option.some.injEq] at h; subst h; exact conc_lit _ _
  | global g => simp only [eval, Option.some.injEq] at h; subst h; exact conc_lit _ _
  | func g => simp only [eval, Option.some.injEq] at h; subst h; exact conc_fn (concs_nil _)

theorem putT_ok (hT : TRel ρ nt tt tmps) {dst : Option Tmp} {cv : Value} (h : putT nt tt dst v = some tt') (hv : conc ρ v = some cv) : TRel ρ nt tt' (putA tmps dst cv) := by
  unfold putT at h
  split at h
  · rename_i d
    split at h
    · rename_i hd
      cases h
      have hlt := blt_lt hd
      refine ⟨by simp [putA, hT.1], fun i sv hi => ?_⟩
      rw [T.get_put] at hi
      by_cases e : i = d
      · rw [if_pos e] at hi
        cases hi
        subst e
        exact ⟨cv, hv, by simp [putA, hT.1, hlt]⟩
      · rw [if_neg e] at hi
        obtain ⟨u, h1, h2⟩ := hT.2 i sv hi
        exact ⟨u, h1, by simp [putA, Ne.symm e, h2]⟩
    · cases h
  · cases h
    exact hT

theorem conc_bool {sv : SV} {b : Bool} (h : conc ρ sv = some (.bool b)) : sv = .lit (.bool b) := by
  cases sv with
  | lit x => rw [conc_lit] at h; cases h; rfl
  | sint k e => simp only [conc, Option.some.injEq] at h; cases h
  | sstr e => simp only [conc, Option.some.injEq] at h; cases h
  | _ =>
    simp only [conc, Option.map_eq_some_iff] at h
    obtain ⟨p, _, hp⟩ := h
    cases hp

theorem wanted_ok (hT : TRel ρ nt tt tmps) {ops : Array Oper} {o : Oper} {b : Bool} (h : wanted ops.toList o tt = some b) : Region.wanted o (Go.yielded ops tmps) = b := by
  unfold wanted at h
  unfold Region.wanted
  cases hg : o.guard with
  | none => rw [hg] at h; simpa using h
  | some jw =>
    obtain ⟨j, want⟩ := jw
    rw [hg] at h
    dsimp only at h ⊢
    split at h
    · rename_i g hj
      split at h
      · rename_i d hd
        have hj' : ops[j]? = some g := by simpa using hj
        split at h
        · rename_i b' hb
          obtain ⟨u, h1, h2⟩ := hT.2 d _ hb
          rw [conc_lit] at h1
          cases h1
          have : Go.yielded ops tmps j = some b' := by simp [Go.yielded, hj', hd, h2]
          rw [this]
          cases b' <;> cases want <;> simp_all
        · rename_i sv hne hb
          cases h
          obtain ⟨u, h1, h2⟩ := hT.2 d _ hb
          have : Go.yielded ops tmps j = none := by
            simp only [Go.yielded, hj', Option.bind_some, hd, h2]
            cases u <;> first | rfl | exact absurd (conc_bool h1) (hne _)
          rw [this]
          rfl
        · cases h
      · cases h
    · cases h

theorem run_callFunc (hG : Good cx.P) {g : FuncId} {fn : Func} (hf : cx.P.funcs[g]? = some fn) (hb : fn.body.isSome = true) (args : Array Value) : (callFunc g args).run cx.P w = .ok (.enter g args) w := by
  have hn := hG.names g fn hf hb
  have hb' : fn.body.isNone = false := by cases h : fn.body <;> simp_all
  simp only [callFunc, Sem.run_bind, run_program, Result.andThen_ok, hf, hn, Bool.false_eq_true, if_false, hb', Sem.run_pure]

theorem putAll_ok : ∀ {l : List (Tmp × SV)} {us : List Value} {tt tt' : T SV} {tmps : Array Value}, TRel ρ nt tt tmps → putAll nt tt l = some tt' → concs ρ (l.map (·.2)) = some us →
    TRel ρ nt tt' (((l.map (·.1)).zip us).foldl (fun (ts : Array Value) (p : Tmp × Value) => ts.setIfInBounds p.1 p.2) tmps)
  | [], us, tt, tt', tmps, hT, h, hu => by
    simp only [putAll, Option.some.injEq] at h
    subst h
    simpa using hT
  | (d, x) :: l, us, tt, tt', tmps, hT, h, hu => by
    simp only [List.map_cons] at hu
    obtain ⟨u, us', h1, h2, rfl⟩ := concs_cons_iff.1 hu
    simp only [putAll] at h
    split at h
    · rename_i t1 hp
      have := putT_ok hT hp h1
      simp only [List.map_cons, List.zip_cons_cons, List.foldl_cons]
      exact putAll_ok this h h2
    · cases h

theorem run_getLoop {b : Nat} {r : Loop} (h : w.heap[b]? = some (.loop r)) : (Instr.getLoop b).run cx.P w = .ok r w := by
  simp [Instr.getLoop, getObj, Sem.run, h]

/-- What a call of a function value comes to. -/
theorem target_ok (hG : Good cx.P) (hR : Rel cx B ρ w s) {fv : SV} {args : List SV} {t : Task} {u : Value} {us : List Value} (h : target s fv args = some t) (hfv : conc ρ fv = some u) (ha : concs ρ args = some us)
    (hfun : ∀ g as, t = .call g as → ∃ fn, cx.P.funcs[g]? = some fn ∧ fn.body.isSome = true) :
    ∃ d, (∀ w', (Deferred.ofValue u us.toArray).run cx.P w' = .ok d w') ∧
      ((∃ g as, (invoke d.target d.args).run cx.P w = .ok (.enter g as) w ∧ Starts cx.P ρ t (Frame.enter cx.P g as .normal)) ∨
       (∃ lb g ts as body, (invoke d.target d.args).run cx.P w = .ok (.round lb g ts as body) w ∧ Starts cx.P ρ t (Frame.round lb g ts as body .normal))) := by
  unfold target at h
  split at h
  · rename_i g caps
    cases h
    simp only [conc, Option.map_eq_some_iff] at hfv
    obtain ⟨vs, h1, rfl⟩ := hfv
    refine ⟨{ target := .fn (.func g) vs.toArray, args := #[] ++ us.toArray }, fun w' => rfl, .inl ⟨g, (us ++ vs).toArray, ?_, us ++ vs, concs_append ha h1, rfl⟩⟩
    obtain ⟨fn, hf, hb⟩ := hfun g _ rfl
    have : (#[] ++ us.toArray ++ vs.toArray : Array Value) = (us ++ vs).toArray := by simp
    simp only [invoke, this]
    exact run_callFunc hG hf hb _
  · rename_i g first caps
    split at h
    · rename_i e1 e2
      cases h
      rw [conc_lit] at hfv
      cases hfv
      have e1' : first = #[] := by apply Array.ext'; simpa using e1
      have e2' : caps = #[] := by apply Array.ext'; simpa using e2
      subst e1'; subst e2'
      refine ⟨{ target := .fn (.func g) #[], args := #[] ++ us.toArray }, fun w' => rfl, .inl ⟨g, us.toArray, ?_, us, ha, rfl⟩⟩
      obtain ⟨fn, hf, hb⟩ := hfun g _ rfl
      have : (#[] ++ us.toArray ++ #[] : Array Value) = us.toArray := by simp
      simp only [invoke, this]
      exact run_callFunc hG hf hb _
    · cases h
  · rename_i n
    split at h
    · rename_i st p fn nt tt params as body dd hs
      split at h
      · rename_i tt1 hlen hput
        cases h
        obtain ⟨b, cap, ob, h1, h2, h3, tmps, db, dc, h4, h5, rfl⟩ := hR.obj n _ hs
        simp only [conc, h1, Option.map_some, Option.some.injEq] at hfv
        subst hfv
        have hl : params.length = args.length := beq_eq hlen
        have hus := concs_length ha
        have hmap : (params.zip args).map (·.2) = args := List.map_snd_zip (by omega)
        have hmap1 : (params.zip args).map (·.1) = params := List.map_fst_zip (by omega)
        have hT := putAll_ok h4 hput (us := us) (by rw [hmap]; exact ha)
        rw [hmap1] at hT
        refine ⟨{ target := .fn (.yield b) #[], args := #[] ++ us.toArray }, fun w' => rfl, .inr ⟨b, fn, _, as, body, ?_, b, cap, _, h1, hT, rfl⟩⟩
        have : (#[] ++ us.toArray : Array Value) = us.toArray := by simp
        simp only [invoke, this, Instr.yield, Sem.run_bind, run_getLoop h3, Result.andThen_ok]
        rw [if_neg (by simp; omega)]
        simp
      · cases h
    · cases h
  · cases h

theorem find_noEscape {fn : Func} (h : (fn.name == "internal/abi.NoEscape") = true) : Extern.find fn = some Extern.AbiNoEscape.same := by
  have h := eq_of_beq h
  unfold Extern.find
  rw [h]
  rfl

/-- A call of a function without a Go body. -/
theorem bare_ok {fv : SV} {args : List SV} {t : Task} {u : Value} {us : List Value} (h : target s fv args = some t) (hfv : conc ρ fv = some u) (ha : concs ρ args = some us) {r : SV} (hb : bare cx t = some r) :
    ∃ d cv, (∀ w', (Deferred.ofValue u us.toArray).run cx.P w' = .ok d w') ∧ (invoke d.target d.args).run cx.P w = .ok (.value cv) w ∧ conc ρ r = some cv := by
  have key : ∀ {g : FuncId} {as : List SV} {vs : List Value}, bare cx (.call g as) = some r → concs ρ as = some vs → ∃ cv, (callFunc g vs.toArray).run cx.P w = .ok (.value cv) w ∧ conc ρ r = some cv := by
    intro g as vs hb hvs
    unfold bare at hb
    dsimp only at hb
    split at hb
    · rename_i fn hfn
      split at hb
      · cases hb
      · rename_i hbody
        split at hb
        · rename_i ws hws
          have := mapM_toValue hws hvs
          subst this
          split at hb
          · rename_i v hv
            cases hb
            exact ⟨v, pureRun_ok _ _ _ hv w, conc_lit _ _⟩
          · cases hb
        · split at hb
          · have hn : (fn.name == "internal/abi.NoEscape") = true := by assumption
            have hx : (Extern.findNext fn).isNone = true := by assumption
            cases hb
            obtain ⟨v, rfl, hv⟩ := concs_one hvs
            refine ⟨v, ?_, hv⟩
            have h1 : fn.name = "internal/abi.NoEscape" := eq_of_beq hn
            have h2 : Extern.findNext fn = none := by simpa using hx
            have h3 : (fn.name == "runtime.NumGoroutine") = false := by rw [h1]; rfl
            simp only [callFunc, Sem.run_bind, run_program, Result.andThen_ok, hfn, h3, Bool.false_eq_true, if_false, hbody, Option.isNone_none, if_true, h2, find_noEscape hn]
            rfl
          · cases hb
    · cases hb
  unfold target at h
  split at h
  · rename_i g caps
    cases h
    simp only [conc, Option.map_eq_some_iff] at hfv
    obtain ⟨vs, h1, rfl⟩ := hfv
    obtain ⟨cv, k1, k2⟩ := key hb (concs_append ha h1)
    refine ⟨{ target := .fn (.func g) vs.toArray, args := #[] ++ us.toArray }, cv, fun w' => rfl, ?_, k2⟩
    have : (#[] ++ us.toArray ++ vs.toArray : Array Value) = (us ++ vs).toArray := by simp
    simp only [invoke, this]
    exact k1
  · rename_i g first caps
    split at h
    · rename_i e1 e2
      cases h
      rw [conc_lit] at hfv
      cases hfv
      have e1' : first = #[] := by apply Array.ext'; simpa using e1
      have e2' : caps = #[] := by apply Array.ext'; simpa using e2
      subst e1'; subst e2'
      obtain ⟨cv, k1, k2⟩ := key hb ha
      refine ⟨{ target := .fn (.func g) #[], args := #[] ++ us.toArray }, cv, fun w' => rfl, ?_, k2⟩
      have : (#[] ++ us.toArray ++ #[] : Array Value) = us.toArray := by simp
      simp only [invoke, this]
      exact k1
    · cases h
  · split at h
    · split at h
      · cases h
        cases hb
      · cases h
    · cases h
  · cases h

def OneOK (cx : Cx) (B : Nat) (ih : Runs) : Prop := ∀ t s v s', ih t s = some (v, s') → TaskOK cx B t s s' v

theorem plain_of {ih : Runs} {o : Oper} (h : oneOp cx ih tt s o = some (v, s')) : plainOp o.op = true := by
  obtain ⟨dst, op, type, pos, after, guard⟩ := o
  cases op <;> first | rfl | (simp [oneOp, xop] at h)

theorem ifaceOf_ok {x v : SV} {t : TypeId} (h : ifaceOf x = some (t, v)) {u : Value} (hx : conc ρ x = some u) : ∃ r, u = .iface t r ∧ conc ρ v = some r := by
  unfold ifaceOf at h
  split at h
  · cases h
    simp only [conc, Option.map_eq_some_iff] at hx
    obtain ⟨r, h1, rfl⟩ := hx
    exact ⟨r, rfl, h1⟩
  · cases h
    rw [conc_lit] at hx
    cases hx
    exact ⟨_, rfl, conc_lit _ _⟩
  · cases h

theorem methodOf_ok {P : Program} {t : TypeId} {name : String} {g : FuncId} (h : methodOf P t name = some g) (r : Value) (n : Nat) (w : World) : (Go.method (n + 1) t r name).run P w = .ok (g, r) w := by
  unfold methodOf at h
  split at h
  · rename_i i d hi hd
    split at h
    · rename_i m hm
      have hti : (typeInfo t).run P w = .ok i w := by simp [typeInfo, hi]
      have hfol : ∀ l : List FieldStep, l = [] → (Go.follow l t (.val r)).run P w = .ok (t, .val r) w := fun l hl => by subst hl; rfl
      split at h
      · rename_i g' ptr hp hf
        have hrec : (ptr = isPtr d) → (Go.receiverAt t (.val r) ptr (if m.path.isEmpty then some ((name.splitOn ".").getLastD name) else none)).run P w = .ok r w := by
          intro hpd
          simp only [Go.receiverAt, Sem.run_bind, underlying_ok hd, Result.andThen_ok]
          subst hpd
          cases d <;> rfl
        have fin : ptr = isPtr d → g' = g → (Go.method (n + 1) t r name).run P w = .ok (g, r) w := by
          intro h1 h2
          subst h2
          simp only [Go.method, Sem.run_bind, hti, Result.andThen_ok, hm, hfol _ hp, hf, hrec h1, Sem.run_pure]
        split at h
        · rename_i hd'
          exact fin hd'.symm (Option.some.inj h)
        · rename_i hd'
          exact fin hd'.symm (Option.some.inj h)
        · cases h
      · cases h
    · cases h
  · cases h

/-- One operation of a region, carried out. -/
theorem oneOp_ok (hG : Good cx.P) {ih : Runs} (hih : OneOK cx B ih) (hR : Rel cx B ρ w s) (hf : Fresh ρ s.next s'.next) {ops : Array Oper} {i : Nat} {rest : List Nat} {o : Oper} (ho : ops[i]? = some o)
    (hw : Region.wanted o (Go.yielded ops tmps) = true) (hev : ∀ x ∈ o.op.operands, ∀ sv, eval tt x = some sv → conc ρ sv = some ((fr f tmps [] ds ro).eval x)) (h : oneOp cx ih tt s o = some (v, s')) :
    ∃ ρ' w' cv, Steps cx.P (lone (fr f tmps (.inRegion ops (i :: rest) :: k) ds ro) cs w) (lone (fr f (putA tmps o.dst cv) (.inRegion ops rest :: k) ds ro) cs w') ∧ conc ρ' v = some cv ∧ Rel cx B ρ' w' s' ∧ Ext s s' ρ ρ' w w' := by
  have hp := plain_of h
  have done : Done cx B (execOp (fr f tmps [] ds ro).eval o) ρ w s s' v → ∃ ρ' w' cv, Steps cx.P (lone (fr f tmps (.inRegion ops (i :: rest) :: k) ds ro) cs w) (lone (fr f (putA tmps o.dst cv) (.inRegion ops rest :: k) ds ro) cs w') ∧ conc ρ' v = some cv ∧ Rel cx B ρ' w' s' ∧ Ext s s' ρ ρ' w w' := by
    rintro ⟨ρ', w', cv, h1, h2, h3, h4⟩
    exact ⟨ρ', w', cv, .one (st_op_value ho hw hp h1), h2, h3, h4⟩
  by_cases hc : ∃ c, o.op = .call c
  · obtain ⟨c, hc⟩ := hc
    simp only [oneOp, hc] at h
    rw [hc] at hev
    split at h
    · cases h
    · rename_i args hargs
      have hus := mapM_concs (ρ := ρ) (g := (fr f tmps [] ds ro).eval) hargs (fun x hx sv hsv => hev x (by simp only [Op.operands, Call.operands]; exact Array.mem_append.2 (.inr (by simpa using hx))) sv hsv)
      have hmap : (c.args.map (fr f tmps [] ds ro).eval) = (c.args.toList.map (fr f tmps [] ds ro).eval).toArray := by apply Array.ext'; simp
      split at h
      · rename_i b hb
        refine done ?_
        have := xbuiltin_ok (consts := c.args.map fun | .const _ => true | _ => false) hR hf hus h
        obtain ⟨dst, op, type, pos, after, guard⟩ := o
        dsimp only at hc
        subst hc
        obtain ⟨callee, cargs, argTypes⟩ := c
        dsimp only at hb
        subst hb
        dsimp only at hmap
        show Done cx B (Go.builtin b argTypes type _ (cargs.map (fr f tmps [] ds ro).eval)) ρ w s s' v
        rw [hmap]
        exact this
      · rename_i fo hfo
        split at h
        · rename_i fv hfv
          split at h
          · rename_i t ht
            split at h
            · rename_i kv hkv
              cases h
              have hfc := hev fo (by simp only [Op.operands, Call.operands, hfo]; exact Array.mem_append.2 (.inl (by simp))) fv hfv
              obtain ⟨d, cv, h1, h2, h3⟩ := bare_ok (w := w) ht hfc hus hkv
              refine done (Done.same hR ?_ h3)
              obtain ⟨dst, op, type, pos, after, guard⟩ := o
              dsimp only at hc
              subst hc
              obtain ⟨callee, cargs, argTypes⟩ := c
              dsimp only at hfo
              subst hfo
              dsimp only at hmap h1
              show (do let d ← Deferred.ofValue ((fr f tmps [] ds ro).eval fo) (cargs.map (fr f tmps [] ds ro).eval); invoke d.target d.args : Sem Next).run cx.P w = _
              rw [hmap, Sem.run_bind, h1, Result.andThen_ok, h2]
            obtain ⟨hfun, htask⟩ := hih t s v s' h
            have hfc := hev fo (by simp only [Op.operands, Call.operands, hfo]; exact Array.mem_append.2 (.inl (by simp))) fv hfv
            obtain ⟨d, h1, h2⟩ := target_ok hG hR ht hfc hus hfun
            have hrun : ∀ n, (invoke d.target d.args).run cx.P w = .ok n w → (execOp (fr f tmps [] ds ro).eval o).run cx.P w = .ok n w := by
              intro n hn
              obtain ⟨dst, op, type, pos, after, guard⟩ := o
              dsimp only at hc
              subst hc
              obtain ⟨callee, cargs, argTypes⟩ := c
              dsimp only at hfo
              subst hfo
              dsimp only at hmap h1
              show (do let d ← Deferred.ofValue ((fr f tmps [] ds ro).eval fo) (cargs.map (fr f tmps [] ds ro).eval); invoke d.target d.args : Sem Next).run cx.P w = _
              rw [hmap, Sem.run_bind, h1, Result.andThen_ok, hn]
            have hfin : ∀ cv, (fr f tmps (.inRegion ops (i :: rest) :: k) ds ro).finish cv = fr f (putA tmps o.dst cv) (.inRegion ops rest :: k) ds ro := fun cv => fr_finish ho cv
            rcases h2 with ⟨g, as, h3, h4⟩ | ⟨lb, g, ts, as, body, h3, h4⟩
            · obtain ⟨ρ', w', cv, h5, h6, h7, h8⟩ := htask ρ w hR hf _ h4 (fr f tmps (.inRegion ops (i :: rest) :: k) ds ro) cs
              rw [hfin] at h5
              exact ⟨ρ', w', cv, .head (st_op_enter ho hw hp (hrun _ h3)) h5, h6, h7, h8⟩
            · obtain ⟨ρ', w', cv, h5, h6, h7, h8⟩ := htask ρ w hR hf _ h4 (fr f tmps (.inRegion ops (i :: rest) :: k) ds ro) cs
              rw [hfin] at h5
              exact ⟨ρ', w', cv, .head (st_op_round ho hw hp (hrun _ h3)) h5, h6, h7, h8⟩
          · cases h
        · cases h
      · rename_i ro' name hro
        split at h
        · rename_i x hx
          split at h
          · rename_i t rv hif
            split at h
            · rename_i g hg
              obtain ⟨hfun, htask⟩ := hih _ s v s' h
              have hxc := hev ro' (by simp only [Op.operands, Call.operands, hro]; exact Array.mem_append.2 (.inl (by simp))) x hx
              obtain ⟨r, hr, hrv⟩ := ifaceOf_ok hif hxc
              have hrun : (execOp (fr f tmps [] ds ro).eval o).run cx.P w = .ok (.enter g (r :: c.args.toList.map (fr f tmps [] ds ro).eval).toArray) w := by
                obtain ⟨dst, op, type, pos, after, guard⟩ := o
                dsimp only at hc
                subst hc
                obtain ⟨callee, cargs, argTypes⟩ := c
                dsimp only at hro
                subst hro
                dsimp only at hmap
                show (do let d ← (Pure.pure { target := .fn (.method name) #[], args := #[(fr f tmps [] ds ro).eval ro'] ++ cargs.map (fr f tmps [] ds ro).eval } : Sem Deferred); invoke d.target d.args : Sem Next).run cx.P w = _
                rw [hmap, hr]
                simp only [Sem.run_bind, Sem.run_pure, Result.andThen_ok, invoke]
                have h0 : (#[Value.iface t r] ++ (cargs.toList.map (fr f tmps [] ds ro).eval).toArray)[0]? = some (.iface t r) := by simp
                rw [h0]
                have h1 : (#[Value.iface t r] ++ (cargs.toList.map (fr f tmps [] ds ro).eval).toArray).extract 1 (#[Value.iface t r] ++ (cargs.toList.map (fr f tmps [] ds ro).eval).toArray).size = (cargs.toList.map (fr f tmps [] ds ro).eval).toArray := by
                  apply Array.ext'
                  simp only [Array.toList_extract, List.size_toArray, Array.size_append]
                  simp
                  exact List.take_of_length_le (by simp)
                simp only [h1, callMethod, Sem.run_bind, run_program, Result.andThen_ok]
                rw [show cx.P.types.size + Made.depth = (cx.P.types.size + 99) + 1 from rfl, methodOf_ok hg]
                simp only [Result.andThen_ok]
                obtain ⟨fn, hfn, hb⟩ := hfun g _ rfl
                have h2 : (#[r] ++ (cargs.toList.map (fr f tmps [] ds ro).eval).toArray : Array Value) = (r :: cargs.toList.map (fr f tmps [] ds ro).eval).toArray := by simp
                rw [h2]
                exact run_callFunc hG hfn hb _
              obtain ⟨ρ', w', cv, h5, h6, h7, h8⟩ := htask ρ w hR hf _ ⟨_, concs_cons hrv hus, rfl⟩ (fr f tmps (.inRegion ops (i :: rest) :: k) ds ro) cs
              rw [fr_finish ho] at h5
              exact ⟨ρ', w', cv, .head (st_op_enter ho hw hp hrun) h5, h6, h7, h8⟩
            · cases h
          · cases h
        · cases h
  · refine done (xop_ok hR hf o hev ?_)
    obtain ⟨dst, op, type, pos, after, guard⟩ := o
    cases op <;> first | exact h | exact absurd ⟨_, rfl⟩ hc
end
end Go.Proofs.YtdkkblkbonjjgabGreatDoor.Ev

namespace Go.Proofs.YtdkkblkbonjjgabGreatDoor.Ev
open Go
variable [Env]

theorem setCells_next {s s' : St} {n off : Nat} {vs : List SV} (h : setCells s n off vs = some s') : s'.next = s.next := by
  unfold setCells at h
  split at h
  · split at h
    · cases h; rfl
    · cases h
  · split at h
    · cases h; rfl
    · cases h
  · cases h

theorem store_next {cx : Cx} {s s' : St} {t : TypeId} {a v : SV} (h : store cx s t a v = some s') : s'.next = s.next := by
  unfold store at h
  split at h
  · split at h
    · exact setCells_next h
    · cases h
  · cases h

theorem le_new (s : St) (o : SO) : s.next ≤ (s.new o).next := Nat.le_succ _
theorem le_kill_new (s : St) (b : Nat) (o : SO) : s.next ≤ ((s.kill b).new o).next := Nat.le_succ _

theorem append_next {cx : Cx} {s s' : St} {e : TypeId} {x y v : SV} (h : append cx s e x y = some (v, s')) : s.next ≤ s'.next := by
  unfold append at h
  split at h
  · cases h
  split at h
  · cases h
  split at h
  · cases h
  split at h
  · cases h
  split at h
  · split at h
    · cases h; exact Nat.le_refl _
    · split at h
      · cases h; exact le_new _ _
      · cases h
  · split at h
    · split at h
      · rename_i hs; cases h; exact Nat.le_of_eq (setCells_next hs).symm
      · cases h
    · split at h
      · cases h; exact le_new _ _
      · cases h
  · split at h
    · split at h
      · split at h
        · cases h; exact Nat.le_refl _
        · cases h; exact le_kill_new _ _ _
      · cases h
    · cases h
  · cases h


theorem xop_next {cx : Cx} {ev : Operand → Option SV} {s s' : St} {op : Op} {v : SV} (h : xop cx ev s op = some (v, s')) : s.next ≤ s'.next := by
  cases op <;> simp only [xop] at h <;> (repeat' split at h) <;> first
    | (cases h; done)
    | (cases h; exact Nat.le_refl _)
    | (cases h; exact Nat.le_succ _)
    | (simp only [Option.map_eq_some_iff, Prod.mk.injEq] at h; obtain ⟨_, _, _, rfl⟩ := h; exact Nat.le_refl _)
    | (simp only [Option.map_eq_some_iff, Prod.mk.injEq] at h; obtain ⟨_, hs, _, rfl⟩ := h; exact Nat.le_of_eq (store_next hs).symm)

theorem frost_next (s : St) (n : Nat) : (s.frost n).next = s.next := by
  unfold St.frost
  split <;> rfl

theorem xbuiltin_next {cx : Cx} {s s' : St} {b : Builtin} {ats : Array TypeId} {ty : TypeId} {args : List SV} {v : SV} (h : xbuiltin cx s b ats ty args = some (v, s')) : s.next ≤ s'.next := by
  unfold xbuiltin at h
  (repeat' split at h) <;> first
    | (cases h; done)
    | exact append_next h
    | (cases h; exact Nat.le_refl _)
    | (cases h; exact Nat.le_of_eq rfl)
    | (cases h; exact Nat.le_of_eq (frost_next _ _).symm)
    | (rename_i hs; cases h; exact Nat.le_of_eq (setCells_next hs).symm)
    | (simp only [Option.map_eq_some_iff, Prod.mk.injEq] at h; obtain ⟨_, _, _, rfl⟩ := h; exact Nat.le_refl _)

def NextOK (ih : Runs) : Prop := ∀ t s v s', ih t s = some (v, s') → s.next ≤ s'.next

theorem oneOp_next {cx : Cx} {ih : Runs} (hn : NextOK ih) {tt : T SV} {s s' : St} {o : Oper} {v : SV} (h : oneOp cx ih tt s o = some (v, s')) : s.next ≤ s'.next := by
  unfold oneOp at h
  split at h
  · split at h
    · cases h
    · split at h
      · exact xbuiltin_next h
      · split at h
        · split at h
          · split at h
            · cases h; exact Nat.le_refl _
            · exact hn _ _ _ _ h
          · cases h
        · cases h
      · split at h
        · split at h
          · split at h
            · exact hn _ _ _ _ h
            · cases h
          · cases h
        · cases h
  · exact xop_next h

theorem runOps_next {cx : Cx} {ih : Runs} (hn : NextOK ih) {nt : Nat} {ops : List Oper} : ∀ {l : List Oper} {tt tt' : T SV} {s s' : St}, runOps cx ih nt ops l tt s = some (tt', s') → s.next ≤ s'.next
  | [], tt, tt', s, s', h => by simp only [runOps, Option.some.injEq, Prod.mk.injEq] at h; rw [h.2]; exact Nat.le_refl _
  | o :: l, tt, tt', s, s', h => by
    simp only [runOps] at h
    split at h
    · split at h
      · rename_i h1
        split at h
        · exact Nat.le_trans (oneOp_next hn h1) (runOps_next hn h)
        · cases h
      · cases h
    · split at h
      · exact runOps_next hn h
      · cases h
    · cases h

theorem runDrawn_next {cx : Cx} {ih : Runs} (hn : NextOK ih) {nt : Nat} {ops : List Oper} {as : List Nat} {ad : Bool} {cl : List Did} : ∀ {l : List (Oper × Nat)} {i : Nat} {ran ran' : List Did} {tt tt' : T SV} {s s' : St}, runDrawn cx ih nt ops as ad cl l i ran tt s = some (tt', s', ran') → s.next ≤ s'.next
  | [], i, ran, ran', tt, tt', s, s', h => by
    simp only [runDrawn] at h
    cases h; exact Nat.le_refl _
  | (o, anc) :: l, i, ran, ran', tt, tt', s, s', h => by
    simp only [runDrawn] at h
    split at h
    · split at h
      · split at h
        · split at h
          · exact runDrawn_next hn h
          · cases h
        · cases h
      · split at h
        · split at h
          · split at h
            · have h3 := runDrawn_next hn h
              exact h3
            · cases h
          · cases h
        · split at h
          · rename_i h1
            have h2 := oneOp_next hn h1
            split at h
            · have h3 := runDrawn_next hn h
              exact Nat.le_trans h2 h3
            · cases h
          · cases h
    · split at h
      · exact runDrawn_next hn h
      · cases h
    · cases h

theorem runRegion_split {cx : Cx} {ih : Runs} {nt : Nat} {ops : List Oper} {as : List Nat} {tt tt' : T SV} {s s' : St} (h : runRegion cx ih nt ops as tt s = some (tt', s')) :
    ∃ ad cl ran, runDrawn cx ih nt ops as ad cl (ops.zip as) 0 [] tt s = some (tt', s', ran) ∧ calm as cl ran ran = true := by
  unfold runRegion at h
  split at h
  · rename_i h1
    split at h
    · rename_i h2
      cases h
      exact ⟨_, _, _, h1, h2⟩
    · split at h
      · rename_i h3
        split at h
        · rename_i h4
          cases h
          exact ⟨_, _, _, h3, h4⟩
        · cases h
      · cases h
  · cases h

theorem runRegion_next {cx : Cx} {ih : Runs} (hn : NextOK ih) {nt : Nat} {ops : List Oper} {as : List Nat} {tt tt' : T SV} {s s' : St} (h : runRegion cx ih nt ops as tt s = some (tt', s')) : s.next ≤ s'.next := by
  obtain ⟨ad, cl, ran, h1, _⟩ := runRegion_split h
  exact runDrawn_next hn h1

section
variable {cx : Cx} {B : Nat} {f : FuncId} {k : List Item} {ds : List Deferred} {ro : Option Nat} {cs : List Frame} {nt : Nat}

/-- A region in the order of the text. -/
theorem runOps_ok (hG : Good cx.P) {ih : Runs} (hih : OneOK cx B ih) (hn : NextOK ih) {ops : Array Oper} : ∀ (l : List Oper) (i : Nat) {tt tt' : T SV} {s s' : St} {tmps : Array Value} {ρ : Nm} {w : World}, (∀ j, l[j]? = ops[i + j]?) →
    runOps cx ih nt ops.toList l tt s = some (tt', s') → Rel cx B ρ w s → TRel ρ nt tt tmps → Fresh ρ s.next s'.next →
    ∃ ρ' w' tmps', Steps cx.P (lone (fr f tmps (.inRegion ops (List.range' i l.length) :: k) ds ro) cs w) (lone (fr f tmps' k ds ro) cs w') ∧ TRel ρ' nt tt' tmps' ∧ Rel cx B ρ' w' s' ∧ Ext s s' ρ ρ' w w'
  | [], i, tt, tt', s, s', tmps, ρ, w, hl, h, hR, hT, hf => by
    simp only [runOps, Option.some.injEq, Prod.mk.injEq] at h
    obtain ⟨rfl, rfl⟩ := h
    exact ⟨ρ, w, tmps, .one st_region_end, hT, hR, Ext.refl _ _ _⟩
  | o :: l, i, tt, tt', s, s', tmps, ρ, w, hl, h, hR, hT, hf => by
    have ho : ops[i]? = some o := by have := hl 0; simpa using this.symm
    have hl' : ∀ j, l[j]? = ops[i + 1 + j]? := fun j => by
      have := hl (j + 1)
      rw [show i + 1 + j = i + (j + 1) by omega, ← this]
      rfl
    simp only [runOps] at h
    rw [List.length_cons, List.range'_succ]
    split at h
    · rename_i hw
      have hw' := wanted_ok hT hw
      split at h
      · rename_i v s1 h1
        split at h
        · rename_i tt1 hp
          have n1 := oneOp_next hn h1
          have n2 := runOps_next hn h
          obtain ⟨ρ1, w1, cv, e1, e2, e3, e4⟩ := oneOp_ok (k := k) (ds := ds) (ro := ro) (cs := cs) (f := f) (rest := List.range' (i + 1) l.length) hG hih hR (hf.sub (Nat.le_refl _) n2) ho hw' (fun x _ sv hx => eval_ok hT hx) h1
          obtain ⟨ρ2, w2, tm2, g1, g2, g3, g4⟩ := runOps_ok hG hih hn l (i + 1) hl' h e3 (putT_ok (hT.mono e4.sub) hp e2) (hf.step e4)
          exact ⟨ρ2, w2, tm2, e1.trans g1, g2, g3, e4.trans g4⟩
        · cases h
      · cases h
    · rename_i hw
      have hw' := wanted_ok hT hw
      split at h
      · rename_i tt1 hp
        obtain ⟨ρ2, w2, tm2, g1, g2, g3, g4⟩ := runOps_ok hG hih hn l (i + 1) hl' h hR (putT_ok hT hp (conc_lit _ _)) hf
        exact ⟨ρ2, w2, tm2, .head (st_op_skip ho hw') g1, g2, g3, g4⟩
      · cases h
    · cases h
end
end Go.Proofs.YtdkkblkbonjjgabGreatDoor.Ev

namespace Go.Proofs.YtdkkblkbonjjgabGreatDoor.Ev
open Go
variable [Env]

theorem hidden_append : ∀ (a b : List (Nat × Nat)) (n : Nat), hidden (a ++ b) n = (hidden a n || hidden b n)
  | [], b, n => rfl
  | (x, y) :: a, b, n => by
    simp only [List.cons_append, hidden]
    split
    · rfl
    · exact hidden_append a b n

/-- What the reckoner itself keeps: names not written, names that are gone. -/
structure Kp (s s' : St) : Prop where
  hid : s'.hid = s.hid
  le : s.next ≤ s'.next
  dead : ∀ n, n < s.next → s.heap.get n = none → s'.heap.get n = none
  top : (∀ n, s.next ≤ n → s.heap.get n = none) → ∀ n, s'.next ≤ n → s'.heap.get n = none
  wr : ∀ n, n ∈ s.wr → n ∈ s'.wr
  keepw : ∀ n, n < s.next → n ∉ s'.wr → s'.heap.get n = s.heap.get n
  saw : ∀ n, n ∈ s'.wr → n ∈ s.wr ∨ s.next ≤ n ∨ ∃ o, s.see n = some o

theorem see_iff {s : St} {nm : Nat} {o : SO} : s.see nm = some o ↔ hidden s.hid nm = false ∧ s.heap.get nm = some o := by
  unfold St.see
  cases hidden s.hid nm <;> simp

theorem Kp.refl (s : St) : Kp s s := ⟨rfl, Nat.le_refl _, fun _ _ h => h, fun h => h, fun _ h => h, fun _ _ _ => rfl, fun _ h => .inl h⟩
theorem Kp.trans {a b c : St} (h : Kp a b) (k : Kp b c) : Kp a c :=
  ⟨k.hid.trans h.hid, Nat.le_trans h.le k.le,
    fun n h1 h2 => k.dead n (Nat.lt_of_lt_of_le h1 h.le) (h.dead n h1 h2), fun t => k.top (h.top t), fun n hn => k.wr n (h.wr n hn),
    fun n h1 h2 => (k.keepw n (Nat.lt_of_lt_of_le h1 h.le) h2).trans (h.keepw n h1 fun hh => h2 (k.wr n hh)), fun n hn => by
      rcases k.saw n hn with h1 | h1 | ⟨o, h1⟩
      · exact h.saw n h1
      · exact .inr (.inl (Nat.le_trans h.le h1))
      · by_cases hlt : n < a.next
        · obtain ⟨g1, g2⟩ := see_iff.1 h1
          cases hr : a.heap.get n with
          | none => rw [h.dead n hlt hr] at g2; cases g2
          | some o' => exact .inr (.inr ⟨o', see_iff.2 ⟨by rw [← h.hid]; exact g1, hr⟩⟩)
        · exact .inr (.inl (by omega))⟩
theorem Kp.new (s : St) (o : SO) : Kp s (s.new o) := by
  refine ⟨rfl, Nat.le_succ _, fun n h1 h2 => ?_, fun h n h1 => ?_, fun _ h => h, fun n h1 _ => by simp only [St.new, T.get_put]; rw [if_neg (by omega)], fun _ h => .inl h⟩
  · simp only [St.new, T.get_put]; rw [if_neg (by omega)]; exact h2
  · have h1 : s.next + 1 ≤ n := h1
    simp only [St.new, T.get_put]; rw [if_neg (by omega)]; exact h n (by omega)
theorem Kp.set {s : St} {m : Nat} {o0 : SO} (h0 : s.see m = some o0) (o : SO) : Kp s (s.set m o) := by
  refine ⟨rfl, Nat.le_refl _, fun n h1 h2 => ?_, fun h n h1 => ?_, fun _ h => List.mem_cons_of_mem _ h, fun n _ h2 => ?_, fun n h => ?_⟩
  · simp only [St.set, T.get_put]
    split
    · rename_i e; rw [e, raw_of_see h0] at h2; cases h2
    · exact h2
  · have h1 : s.next ≤ n := h1
    simp only [St.set, T.get_put]
    split
    · rename_i e
      have := h n h1
      rw [e, raw_of_see h0] at this; cases this
    · exact h n h1
  · have hne : n ≠ m := fun e => h2 (by rw [e]; exact List.mem_cons_self ..)
    simp only [St.set, T.get_put]; rw [if_neg hne]
  · rcases List.mem_cons.1 h with rfl | h
    · exact .inr (.inr ⟨o0, h0⟩)
    · exact .inl h
theorem Kp.kill {s : St} {m : Nat} {o0 : SO} (h0 : s.see m = some o0) : Kp s (s.kill m) := by
  refine ⟨rfl, Nat.le_refl _, fun n h1 h2 => ?_, fun h n h1 => ?_, fun _ h => List.mem_cons_of_mem _ h, fun n _ h2 => ?_, fun n h => ?_⟩
  · simp only [St.kill, T.get_put]
    split
    · rfl
    · exact h2
  · have h1 : s.next ≤ n := h1
    simp only [St.kill, T.get_put]
    split
    · rfl
    · exact h n h1
  · have hne : n ≠ m := fun e => h2 (by rw [e]; exact List.mem_cons_self ..)
    simp only [St.kill, T.get_put]; rw [if_neg hne]
  · rcases List.mem_cons.1 h with rfl | h
    · exact .inr (.inr ⟨o0, h0⟩)
    · exact .inl h
theorem Kp.killnew {s : St} {m : Nat} {o0 : SO} (h0 : s.see m = some o0) (o : SO) : Kp s ((s.kill m).new o) := (Kp.kill h0).trans (Kp.new _ o)

theorem setCells_kp {s s' : St} {n off : Nat} {vs : List SV} (h : setCells s n off vs = some s') : Kp s s' := by
  unfold setCells at h
  split at h
  · rename_i h0
    split at h
    · cases h; exact Kp.set h0 _
    · cases h
  · rename_i h0
    split at h
    · cases h; exact Kp.set h0 _
    · cases h
  · cases h

theorem store_kp {cx : Cx} {s s' : St} {t : TypeId} {a v : SV} (h : store cx s t a v = some s') : Kp s s' := by
  unfold store at h
  split at h
  · split at h
    · exact setCells_kp h
    · cases h
  · cases h

theorem append_kp {cx : Cx} {s s' : St} {e : TypeId} {x y v : SV} (h : append cx s e x y = some (v, s')) : Kp s s' := by
  unfold append at h
  split at h
  · cases h
  split at h
  · cases h
  split at h
  · cases h
  split at h
  · cases h
  split at h
  · split at h
    · cases h; exact Kp.refl _
    · split at h
      · cases h; exact Kp.new _ _
      · cases h
  · split at h
    · split at h
      · rename_i hs; cases h; exact setCells_kp hs
      · cases h
    · split at h
      · cases h; exact Kp.new _ _
      · cases h
  · split at h
    · split at h
      · split at h
        · cases h; exact Kp.refl _
        · cases h; exact Kp.killnew ‹s.see _ = some _› _
      · cases h
    · cases h
  · cases h

theorem xop_kp {cx : Cx} {ev : Operand → Option SV} {s s' : St} {op : Op} {v : SV} (h : xop cx ev s op = some (v, s')) : Kp s s' := by
  cases op <;> simp only [xop] at h <;> (repeat' split at h) <;> first
    | (cases h; done)
    | (cases h; exact Kp.refl _)
    | (cases h; exact Kp.new _ _)
    | (cases h; exact Kp.set ‹s.see _ = some _› _)
    | (simp only [Option.map_eq_some_iff, Prod.mk.injEq] at h; obtain ⟨_, _, _, rfl⟩ := h; exact Kp.refl _)
    | (simp only [Option.map_eq_some_iff, Prod.mk.injEq] at h; obtain ⟨_, hs, _, rfl⟩ := h; exact store_kp hs)

theorem rowText_sees {P : Program} {s : St} {pt : TypeId} {n len : Nat} {bs : List UInt8} (h : rowText P s pt n len = some bs) : ∃ o, s.see n = some o := by
  unfold rowText at h
  split at h
  · rename_i hs; exact ⟨_, hs⟩
  · rename_i hs; exact ⟨_, hs⟩
  · rename_i hs; exact ⟨_, hs⟩
  · cases h

theorem frost_kp {s : St} {n : Nat} {o0 : SO} (h0 : s.see n = some o0) : Kp s (s.frost n) := by
  unfold St.frost
  split
  · exact Kp.set h0 _
  · exact Kp.set h0 _
  · exact Kp.set h0 _
  · exact Kp.kill h0

theorem xbuiltin_kp {cx : Cx} {s s' : St} {b : Builtin} {ats : Array TypeId} {ty : TypeId} {args : List SV} {v : SV} (h : xbuiltin cx s b ats ty args = some (v, s')) : Kp s s' := by
  unfold xbuiltin at h
  (repeat' split at h) <;> first
    | (cases h; done)
    | exact append_kp h
    | (cases h; exact Kp.refl _)
    | (rename_i hs; cases h; obtain ⟨_, h0⟩ := rowText_sees hs; exact frost_kp h0)
    | (rename_i hs; cases h; exact setCells_kp hs)
    | (simp only [Option.map_eq_some_iff, Prod.mk.injEq] at h; obtain ⟨_, _, _, rfl⟩ := h; exact Kp.refl _)

def KpOK (ih : Runs) : Prop := ∀ t s v s', ih t s = some (v, s') → Kp s s'

theorem oneOp_kp {cx : Cx} {ih : Runs} (hn : KpOK ih) {tt : T SV} {s s' : St} {o : Oper} {v : SV} (h : oneOp cx ih tt s o = some (v, s')) : Kp s s' := by
  unfold oneOp at h
  split at h
  · split at h
    · cases h
    · split at h
      · exact xbuiltin_kp h
      · split at h
        · split at h
          · split at h
            · cases h; exact Kp.refl _
            · exact hn _ _ _ _ h
          · cases h
        · cases h
      · split at h
        · split at h
          · split at h
            · exact hn _ _ _ _ h
            · cases h
          · cases h
        · cases h
  · exact xop_kp h

theorem runOps_kp {cx : Cx} {ih : Runs} (hn : KpOK ih) {nt : Nat} {ops : List Oper} : ∀ {l : List Oper} {tt tt' : T SV} {s s' : St}, runOps cx ih nt ops l tt s = some (tt', s') → Kp s s'
  | [], tt, tt', s, s', h => by simp only [runOps, Option.some.injEq, Prod.mk.injEq] at h; rw [h.2]; exact Kp.refl _
  | o :: l, tt, tt', s, s', h => by
    simp only [runOps] at h
    split at h
    · split at h
      · rename_i h1
        split at h
        · exact (oneOp_kp hn h1).trans (runOps_kp hn h)
        · cases h
      · cases h
    · split at h
      · exact runOps_kp hn h
      · cases h
    · cases h

theorem mem_eldest {m : Nat} : ∀ {l : List Nat} {n : Nat}, n ∈ eldest m l ↔ n ∈ l ∧ n < m
  | [], n => by simp [eldest]
  | x :: l, n => by
    simp only [eldest]
    cases hb : Nat.blt x m
    · have : ¬ x < m := fun e => by have : Nat.blt x m = true := Nat.ble_eq_true_of_le e; rw [this] at hb; cases hb
      dsimp only
      rw [mem_eldest, List.mem_cons]
      constructor
      · rintro ⟨h1, h2⟩; exact ⟨.inr h1, h2⟩
      · rintro ⟨h1 | h1, h2⟩
        · omega
        · exact ⟨h1, h2⟩
    · have hx : x < m := blt_lt hb
      dsimp only
      rw [List.mem_cons, List.mem_cons, mem_eldest]
      constructor
      · rintro (rfl | ⟨h1, h2⟩)
        · exact ⟨.inl rfl, hx⟩
        · exact ⟨.inr h1, h2⟩
      · rintro ⟨rfl | h1, h2⟩
        · exact .inl rfl
        · exact .inr ⟨h1, h2⟩

/-- What an operation of a drawn region keeps. -/
theorem Kp.within {s s' : St} {hd : List (Nat × Nat)} (h : Kp { s with hid := hd ++ s.hid, wr := [] } s') : Kp s { s' with hid := s.hid, wr := eldest s.next s'.wr ++ s.wr } := by
  refine ⟨rfl, h.le, h.dead, h.top, fun n hn => List.mem_append_right _ hn, fun n h1 h2 => h.keepw n h1 fun hh => h2 (List.mem_append_left _ (mem_eldest.2 ⟨hh, h1⟩)), fun n hn => ?_⟩
  rcases List.mem_append.1 hn with hn | hn
  · rcases h.saw n (mem_eldest.1 hn).1 with h1 | h1 | ⟨o, h1⟩
    · cases h1
    · exact .inr (.inl h1)
    · obtain ⟨g1, g2⟩ := see_iff.1 h1
      refine .inr (.inr ⟨o, see_iff.2 ⟨?_, g2⟩⟩)
      have g1 : hidden (hd ++ s.hid) n = false := g1
      rw [hidden_append, Bool.or_eq_false_iff] at g1
      exact g1.2
  · exact .inl hn

theorem addOne_ok {cx : Cx} {ev : Operand → Option SV} {s : St} {op : Op} {n : Nat} {kt : TypeId} {k : Value} {v : SV} {es : List (Value × SV)} (h : addOne cx ev s op = some (n, kt, k, v, es)) :
    ∃ t m kx x elem, op = .insert t m kx x ∧ cx.P.underlying t = some (.map kt elem) ∧ ev m = some (.mp n) ∧ litOf ev kx = some k ∧ ev x = some v ∧ keyFits cx.P kt k = true ∧ s.see n = some (.map kt es) ∧ ∀ p ∈ es, apartKey cx.P kt k p.1 = true := by
  unfold addOne at h
  split at h
  · rename_i t m kx x
    split at h
    · rename_i key elem n' k' v' hu hm hk hv
      split at h
      · rename_i kt' es' hf hs
        split at h
        · rename_i hb
          rw [Bool.and_eq_true] at hb
          have e := beq_eq hb.1
          subst e
          cases h
          exact ⟨t, m, kx, x, elem, rfl, hu, hm, hk, hv, hf, hs, fun p hp => List.all_eq_true.1 hb.2 p hp⟩
        · cases h
      · cases h
    · cases h
  · cases h

/-- What is seen with more hidden is seen. -/
theorem see_of_hid {s : St} {hd : List (Nat × Nat)} {wr : List Nat} {n : Nat} {o : SO} (h : ({ s with hid := hd ++ s.hid, wr := wr } : St).see n = some o) : s.see n = some o := by
  obtain ⟨h1, h2⟩ := see_iff.1 h
  have h1 : hidden (hd ++ s.hid) n = false := h1
  rw [hidden_append, Bool.or_eq_false_iff] at h1
  exact see_iff.2 ⟨h1.2, h2⟩

theorem runDrawn_kp {cx : Cx} {ih : Runs} (hn : KpOK ih) {nt : Nat} {ops : List Oper} {as : List Nat} {ad : Bool} {cl : List Did} : ∀ {l : List (Oper × Nat)} {i : Nat} {ran ran' : List Did} {tt tt' : T SV} {s s' : St}, runDrawn cx ih nt ops as ad cl l i ran tt s = some (tt', s', ran') → Kp s s'
  | [], i, ran, ran', tt, tt', s, s', h => by
    simp only [runDrawn] at h
    cases h; exact Kp.refl _
  | (o, anc) :: l, i, ran, ran', tt, tt', s, s', h => by
    simp only [runDrawn] at h
    split at h
    · split at h
      · split at h
        · split at h
          · exact runDrawn_kp hn h
          · cases h
        · cases h
      · split at h
        · split at h
          · rename_i h1
            rw [← List.append_assoc] at h1
            obtain ⟨_, _, _, _, _, _, _, _, _, _, _, hs, _⟩ := addOne_ok h1
            split at h
            · exact (Kp.set (see_of_hid hs) _).trans (runDrawn_kp hn h)
            · cases h
          · cases h
        · split at h
          · rename_i h1
            rw [← List.append_assoc] at h1
            have h2 := (oneOp_kp hn h1).within
            split at h
            · have h3 := runDrawn_kp hn h
              exact h2.trans h3
            · cases h
          · cases h
    · split at h
      · exact runDrawn_kp hn h
      · cases h
    · cases h

theorem runRegion_kp {cx : Cx} {ih : Runs} (hn : KpOK ih) {nt : Nat} {ops : List Oper} {as : List Nat} {tt tt' : T SV} {s s' : St} (h : runRegion cx ih nt ops as tt s = some (tt', s')) : Kp s s' := by
  obtain ⟨ad, cl, ran, h1, _⟩ := runRegion_split h
  exact runDrawn_kp hn h1
end Go.Proofs.YtdkkblkbonjjgabGreatDoor.Ev

namespace Go.Proofs.YtdkkblkbonjjgabGreatDoor.Ev
open Go
variable [Env]

/-- The step of 'ancs'. -/
def ancStep (acc : List Nat) (o : Oper) : Nat := o.after.toList.foldl (fun m e => match Region.binds .any e with | true => Nat.lor m (Nat.lor (Nat.pow 2 e.on) ((acc[e.on]?).getD 0)) | false => m) 0

theorem ancs_go_cons (o : Oper) (rest : List Oper) (acc : List Nat) : ancs.go (o :: rest) acc = ancs.go rest (acc ++ [ancStep acc o]) := rfl

theorem ancs_go_length : ∀ (l : List Oper) (acc : List Nat), (ancs.go l acc).length = acc.length + l.length
  | [], acc => rfl
  | o :: l, acc => by rw [ancs_go_cons, ancs_go_length l]; simp; omega

theorem ancs_go_pre : ∀ (l : List Oper) (acc : List Nat) (i : Nat), i < acc.length → (ancs.go l acc)[i]? = acc[i]?
  | [], acc, i, _ => rfl
  | o :: l, acc, i, h => by
    rw [ancs_go_cons, ancs_go_pre l _ i (by simp; omega), List.getElem?_append_left h]

theorem ancs_go_at : ∀ (l : List Oper) (acc : List Nat) (i : Nat) (o : Oper), l[i]? = some o → ∃ acc', (∀ j, j < acc.length + i → acc'[j]? = (ancs.go l acc)[j]?) ∧ acc'.length = acc.length + i ∧ (ancs.go l acc)[acc.length + i]? = some (ancStep acc' o)
  | [], acc, i, o, h => by simp at h
  | x :: l, acc, 0, o, h => by
    simp at h
    subst h
    refine ⟨acc, fun j hj => ?_, rfl, ?_⟩
    · rw [ancs_go_cons, ancs_go_pre l _ j (by simp; omega), List.getElem?_append_left (by omega)]
    · rw [ancs_go_cons, ancs_go_pre l _ _ (by simp)]
      simp
  | x :: l, acc, i + 1, o, h => by
    obtain ⟨acc', h1, h2, h3⟩ := ancs_go_at l (acc ++ [ancStep acc x]) i o (by simpa using h)
    refine ⟨acc', fun j hj => ?_, by simp at h2; omega, ?_⟩
    · rw [ancs_go_cons]
      exact h1 j (by simp; omega)
    · rw [ancs_go_cons]
      rw [← h3]
      congr 1
      simp
      omega

theorem testBit_lor (m n j : Nat) : Nat.testBit (Nat.lor m n) j = (Nat.testBit m j || Nat.testBit n j) := Nat.testBit_or m n j

theorem anc_fold (a : Nat → Nat) (j : Nat) : ∀ (es : List Edge) (m0 : Nat), Nat.testBit (es.foldl (fun m e => match Region.binds .any e with | true => Nat.lor m (Nat.lor (Nat.pow 2 e.on) (a e.on)) | false => m) m0) j = true →
    Nat.testBit m0 j = true ∨ ∃ e ∈ es, Region.binds .any e = true ∧ (j = e.on ∨ Nat.testBit (a e.on) j = true)
  | [], m0, h => .inl h
  | e :: es, m0, h => by
    simp only [List.foldl_cons] at h
    rcases anc_fold a j es _ h with h1 | ⟨e', he, hb, hj⟩
    · split at h1
      · rename_i hb
        rw [testBit_lor, testBit_lor, Bool.or_eq_true, Bool.or_eq_true] at h1
        rcases h1 with h1 | h1 | h1
        · exact .inl h1
        · refine .inr ⟨e, List.mem_cons_self .., hb, .inl ?_⟩
          have : Nat.testBit (2 ^ e.on) j = true := h1
          rw [Nat.testBit_two_pow] at this
          exact (of_decide_eq_true this).symm
        · exact .inr ⟨e, List.mem_cons_self .., hb, .inr h1⟩
      · exact .inl h1
    · exact .inr ⟨e', List.mem_cons_of_mem _ he, hb, hj⟩

def anc (L : List Oper) (i : Nat) : Nat := ((ancs L)[i]?).getD 0

theorem ancs_length (L : List Oper) : (ancs L).length = L.length := by
  unfold ancs
  rw [ancs_go_length]
  simp

theorem anc_spec {L : List Oper} {i : Nat} {o : Oper} (ho : L[i]? = some o) (hb : ∀ e ∈ o.after.toList, Region.binds .any e = true → e.on < i) {j : Nat} (h : Nat.testBit (anc L i) j = true) :
    ∃ e ∈ o.after.toList, Region.binds .any e = true ∧ (j = e.on ∨ Nat.testBit (anc L e.on) j = true) := by
  obtain ⟨acc', h1, h2, h3⟩ := ancs_go_at L [] i o ho
  simp only [List.length_nil, Nat.zero_add] at h1 h2 h3
  have h4 : anc L i = ancStep acc' o := by
    unfold anc ancs
    rw [h3]
    rfl
  rw [h4] at h
  unfold ancStep at h
  rcases anc_fold (fun k => (acc'[k]?).getD 0) j o.after.toList 0 h with h5 | ⟨e, he, hbe, hj⟩
  · simp at h5
  · refine ⟨e, he, hbe, hj.imp_right fun h6 => ?_⟩
    unfold anc ancs
    rw [← h1 e.on (hb e he hbe)]
    exact h6

/-- Operations that look at no memory. -/
theorem quiet_xop {cx : Cx} {ev : Operand → Option SV} {op : Op} (hq : quietOp op = true) {s s' : St} {v : SV} (h : xop cx ev s op = some (v, s')) : s' = s ∧ ∀ s2, xop cx ev s2 op = some (v, s2) := by
  cases op <;> first | (simp [quietOp] at hq; done) | skip
  all_goals simp only [xop] at h ⊢
  all_goals (repeat' split at h)
  all_goals first
    | (cases h; done)
    | (cases h; exact ⟨rfl, fun s2 => by simp only [*]⟩)
    | (simp only [Option.map_eq_some_iff, Prod.mk.injEq] at h; obtain ⟨_, hv, rfl, rfl⟩ := h; exact ⟨rfl, fun s2 => by simp only [*, Option.map_some]⟩)

theorem quiet_oneOp {cx : Cx} {ih : Runs} {tt : T SV} {o : Oper} (hq : quietOp o.op = true) {s s' : St} {v : SV} (h : oneOp cx ih tt s o = some (v, s')) : s' = s ∧ ∀ s2, oneOp cx ih tt s2 o = some (v, s2) := by
  obtain ⟨dst, op, type, pos, after, guard⟩ := o
  have : ∀ s, oneOp cx ih tt s ⟨dst, op, type, pos, after, guard⟩ = xop cx (eval tt) s op := by
    intro s
    cases op <;> first | rfl | (simp [quietOp] at hq)
  rw [this] at h
  obtain ⟨h1, h2⟩ := quiet_xop hq h
  exact ⟨h1, fun s2 => by rw [this]; exact h2 s2⟩
end Go.Proofs.YtdkkblkbonjjgabGreatDoor.Ev

namespace Go.Proofs.YtdkkblkbonjjgabGreatDoor.Ev
open Go
variable [Env]

/-- One step of the reckoner in a drawn region. -/
def StepQ (cx : Cx) (ih : Runs) (nt : Nat) (L : List Oper) (o : Oper) (s s1 : St) (t t1 : T SV) (r r1 : List Did) (v : SV) : Prop :=
  wanted L o t = some true ∧ quietOp o.op = true ∧ oneOp cx ih t s o = some (v, s) ∧ putT nt t o.dst v = some t1 ∧ s1 = s ∧ r1 = r
def StepS (nt : Nat) (L : List Oper) (o : Oper) (s s1 : St) (t t1 : T SV) (r r1 : List Did) (v : SV) : Prop :=
  wanted L o t = some false ∧ v = .lit undef ∧ putT nt t o.dst v = some t1 ∧ s1 = s ∧ r1 = r
def StepL (cx : Cx) (ih : Runs) (nt : Nat) (L : List Oper) (ad : Bool) (cl : List Did) (i : Nat) (o : Oper) (a : Nat) (s s1 : St) (t t1 : T SV) (r r1 : List Did) (v : SV) : Prop :=
  wanted L o t = some true ∧ (ad = true → isIns o.op = false) ∧ ∃ s', oneOp cx ih t { s with hid := hides a r ++ (claimed (ancs L) i a s.next cl ++ s.hid), wr := [] } o = some (v, s') ∧ putT nt t o.dst v = some t1 ∧
    r1 = (i, s.next, s'.next, eldest s.next s'.wr) :: r ∧ s1 = { s' with hid := s.hid, wr := eldest s.next s'.wr ++ s.wr }
def StepA (cx : Cx) (nt : Nat) (L : List Oper) (ad : Bool) (cl : List Did) (i : Nat) (o : Oper) (a : Nat) (s s1 : St) (t t1 : T SV) (r r1 : List Did) (v : SV) : Prop :=
  wanted L o t = some true ∧ ad = true ∧ isIns o.op = true ∧ v = .lit undef ∧ putT nt t o.dst v = some t1 ∧ ∃ n kt k x es, addOne cx (eval t) { s with hid := hides a r ++ (claimed (ancs L) i a s.next (noIns L cl) ++ s.hid), wr := [] } o.op = some (n, kt, k, x, es) ∧
    r1 = (i, s.next, s.next, [n]) :: r ∧ s1 = s.set n (.map kt (es ++ [(k, x)]))

/-- The run of the reckoner over a drawn region, step by step. -/
structure Tr where
  st : Nat → St
  ts : Nat → T SV
  rn : Nat → List Did
  vl : Nat → SV

def Tr.step (T : Tr) (cx : Cx) (ih : Runs) (nt : Nat) (L : List Oper) (ad : Bool) (cl : List Did) (i : Nat) (o : Oper) (a : Nat) : Prop :=
  StepQ cx ih nt L o (T.st i) (T.st (i + 1)) (T.ts i) (T.ts (i + 1)) (T.rn i) (T.rn (i + 1)) (T.vl i) ∨
  StepS nt L o (T.st i) (T.st (i + 1)) (T.ts i) (T.ts (i + 1)) (T.rn i) (T.rn (i + 1)) (T.vl i) ∨
  StepL cx ih nt L ad cl i o a (T.st i) (T.st (i + 1)) (T.ts i) (T.ts (i + 1)) (T.rn i) (T.rn (i + 1)) (T.vl i) ∨
  StepA cx nt L ad cl i o a (T.st i) (T.st (i + 1)) (T.ts i) (T.ts (i + 1)) (T.rn i) (T.rn (i + 1)) (T.vl i)

def Tr.cons (T : Tr) (i : Nat) (s : St) (t : Ev.T SV) (r : List Did) (v : SV) : Tr where
  st := fun m => if m = i then s else T.st m
  ts := fun m => if m = i then t else T.ts m
  rn := fun m => if m = i then r else T.rn m
  vl := fun m => if m = i then v else T.vl m

theorem trace {cx : Cx} {ih : Runs} {nt : Nat} {L : List Oper} {ad : Bool} {cl : List Did} : ∀ {l : List (Oper × Nat)} {i : Nat} {r r' : List Did} {t t' : T SV} {s s' : St}, runDrawn cx ih nt L (ancs L) ad cl l i r t s = some (t', s', r') →
    ∃ T : Tr, T.st i = s ∧ T.ts i = t ∧ T.rn i = r ∧ T.st (i + l.length) = s' ∧ T.ts (i + l.length) = t' ∧ T.rn (i + l.length) = r' ∧ ∀ j, j < l.length → ∀ o a, l[j]? = some (o, a) → T.step cx ih nt L ad cl (i + j) o a
  | [], i, r, r', t, t', s, s', h => by
    simp only [runDrawn] at h
    cases h
    exact ⟨⟨fun _ => s, fun _ => t, fun _ => r, fun _ => .lit undef⟩, rfl, rfl, rfl, rfl, rfl, rfl, fun j hj => by simp at hj⟩
  | (o, anc) :: l, i, r, r', t, t', s, s', h => by
    have key : ∀ {s1 : St} {t1 : T SV} {r1 : List Did} {v : SV}, runDrawn cx ih nt L (ancs L) ad cl l (Nat.add i 1) r1 t1 s1 = some (t', s', r') →
        (StepQ cx ih nt L o s s1 t t1 r r1 v ∨ StepS nt L o s s1 t t1 r r1 v ∨ StepL cx ih nt L ad cl i o anc s s1 t t1 r r1 v ∨ StepA cx nt L ad cl i o anc s s1 t t1 r r1 v) →
        ∃ T : Tr, T.st i = s ∧ T.ts i = t ∧ T.rn i = r ∧ T.st (i + (l.length + 1)) = s' ∧ T.ts (i + (l.length + 1)) = t' ∧ T.rn (i + (l.length + 1)) = r' ∧ ∀ j, j < l.length + 1 → ∀ o' a, ((o, anc) :: l)[j]? = some (o', a) → T.step cx ih nt L ad cl (i + j) o' a := by
      intro s1 t1 r1 v h1 hs
      obtain ⟨T, e1, e2, e4, e5, e6, e8, e7⟩ := trace h1
      have e1 : T.st (i + 1) = s1 := e1
      have e2 : T.ts (i + 1) = t1 := e2
      have e4 : T.rn (i + 1) = r1 := e4
      have e5 : T.st (i + 1 + l.length) = s' := e5
      have e6 : T.ts (i + 1 + l.length) = t' := e6
      have e8 : T.rn (i + 1 + l.length) = r' := e8
      refine ⟨T.cons i s t r v, by simp [Tr.cons], by simp [Tr.cons], by simp [Tr.cons], ?_, ?_, ?_, ?_⟩
      · simp only [Tr.cons]
        rw [if_neg (by omega), ← e5]
        congr 1; omega
      · simp only [Tr.cons]
        rw [if_neg (by omega), ← e6]
        congr 1; omega
      · simp only [Tr.cons]
        rw [if_neg (by omega), ← e8]
        congr 1; omega
      · intro j hj o' a ho
        cases j with
        | zero =>
          simp at ho
          obtain ⟨rfl, rfl⟩ := ho
          simp only [Tr.step, Tr.cons, Nat.add_zero, if_true]
          rw [if_neg (by omega), if_neg (by omega), if_neg (by omega), e1, e2, e4]
          exact hs
        | succ j =>
          have := e7 j (by omega) o' a (by simpa using ho)
          have hj' : Nat.add i 1 + j = i + (j + 1) := by show i + 1 + j = _; omega
          rw [hj'] at this
          simp only [Tr.step, Tr.cons] at this ⊢
          rw [if_neg (by omega), if_neg (by omega), if_neg (by omega), if_neg (by omega), if_neg (by omega), if_neg (by omega), if_neg (by omega)]
          exact this
    simp only [runDrawn] at h
    rw [List.length_cons]
    split at h
    · rename_i hw
      split at h
      · rename_i hq
        split at h
        · rename_i v s1 h1
          split at h
          · rename_i t1 hp
            obtain ⟨rfl, _⟩ := quiet_oneOp hq h1
            exact key h (.inl ⟨hw, hq, h1, hp, rfl, rfl⟩)
          · cases h
        · cases h
      · split at h
        · rename_i hadd
          rw [Bool.and_eq_true] at hadd
          split at h
          · rename_i n kt kk x es h1
            split at h
            · rename_i t1 hp
              exact key h (.inr (.inr (.inr ⟨hw, hadd.1, hadd.2, rfl, hp, n, kt, kk, x, es, h1, rfl, rfl⟩)))
            · cases h
          · cases h
        · rename_i hadd
          split at h
          · rename_i v s1 h1
            split at h
            · rename_i t1 hp
              refine key h (.inr (.inr (.inl ⟨hw, fun e => ?_, s1, h1, hp, rfl, rfl⟩)))
              rw [e, Bool.true_and] at hadd
              exact hadd
            · cases h
          · cases h
    · rename_i hw
      split at h
      · rename_i t1 hp
        exact key h (.inr (.inl ⟨hw, rfl, hp, rfl, rfl⟩))
      · cases h
    · cases h
end Go.Proofs.YtdkkblkbonjjgabGreatDoor.Ev

namespace Go.Proofs.YtdkkblkbonjjgabGreatDoor.Ev
open Go
variable [Env]

theorem least_exists {p : Nat → Prop} (h : ∃ n, p n) : ∃ m, p m ∧ ∀ k, k < m → ¬ p k := by
  obtain ⟨n, hn⟩ := h
  induction n using Nat.strongRecOn with
  | ind n ih =>
    by_cases h : ∃ k, k < n ∧ p k
    · obtain ⟨k, hk, hp⟩ := h
      exact ih k hk hp
    · exact ⟨n, hn, fun k hk hp => h ⟨k, hk, hp⟩⟩

theorem hidden_hides {a : Nat} : ∀ {r : List Did} {n : Nat}, hidden (hides a r) n = true → ∃ j lo hi ws, (j, lo, hi, ws) ∈ r ∧ Nat.testBit a j = false ∧ lo ≤ n ∧ n < hi
  | [], n, h => by simp [hides, hidden] at h
  | (j, lo, hi, ws) :: r, n, h => by
    simp only [hides] at h
    split at h
    · obtain ⟨j', lo', hi', ws', h1, h2⟩ := hidden_hides h
      exact ⟨j', lo', hi', ws', List.mem_cons_of_mem _ h1, h2⟩
    · rename_i hb
      simp only [hidden] at h
      split at h
      · rename_i hr
        simp only [Bool.and_eq_true] at hr
        exact ⟨j, lo, hi, ws, List.mem_cons_self .., hb, ble_le hr.1, blt_lt hr.2⟩
      · obtain ⟨j', lo', hi', ws', h1, h2⟩ := hidden_hides h
        exact ⟨j', lo', hi', ws', List.mem_cons_of_mem _ h1, h2⟩

theorem hides_hidden {a : Nat} : ∀ {r : List Did} {n j lo hi : Nat} {ws : List Nat}, (j, lo, hi, ws) ∈ r → Nat.testBit a j = false → lo ≤ n → n < hi → hidden (hides a r) n = true
  | [], n, j, lo, hi, ws, h, _, _, _ => by simp at h
  | (j0, lo0, hi0, ws0) :: r, n, j, lo, hi, ws, h, hb, h1, h2 => by
    simp only [hides]
    rcases List.mem_cons.1 h with h | h
    · cases h
      rw [hb]
      simp only [hidden]
      have e1 : Nat.ble lo0 n = true := Nat.ble_eq_true_of_le h1
      have e2 : Nat.blt n hi0 = true := Nat.ble_eq_true_of_le h2
      rw [e1, e2]
      rfl
    · have ih := hides_hidden h hb h1 h2
      split
      · exact ih
      · simp only [hidden]
        split
        · rfl
        · exact ih

theorem hidden_elder {m : Nat} : ∀ {l : List Nat} {n : Nat}, hidden (elder m l) n = true ↔ n ∈ l ∧ n < m
  | [], n => by simp [elder, hidden]
  | x :: l, n => by
    simp only [elder]
    cases hb : Nat.blt x m
    · have : ¬ x < m := fun e => by have : Nat.blt x m = true := Nat.ble_eq_true_of_le e; rw [this] at hb; cases hb
      dsimp only
      rw [hidden_elder, List.mem_cons]
      constructor
      · rintro ⟨h1, h2⟩; exact ⟨.inr h1, h2⟩
      · rintro ⟨h1 | h1, h2⟩
        · omega
        · exact ⟨h1, h2⟩
    · have hx : x < m := blt_lt hb
      dsimp only [hidden]
      rw [List.mem_cons]
      cases hc : (Nat.ble x n && Nat.blt n (Nat.add x 1))
      · dsimp only
        rw [hidden_elder]
        constructor
        · rintro ⟨h1, h2⟩; exact ⟨.inr h1, h2⟩
        · rintro ⟨rfl | h1, h2⟩
          · exfalso
            have e1 : Nat.ble n n = true := Nat.ble_eq_true_of_le (Nat.le_refl _)
            have e2 : Nat.blt n (Nat.add n 1) = true := Nat.ble_eq_true_of_le (Nat.le_refl _)
            rw [e1, e2] at hc
            cases hc
          · exact ⟨h1, h2⟩
      · simp only [Bool.and_eq_true] at hc
        have e1 := ble_le hc.1
        have e2 : n < x + 1 := blt_lt hc.2
        have e3 : n = x := by omega
        subst e3
        simp [hx]

/-- What is hidden from an operation because others write it. -/
theorem hidden_claimed {as : List Nat} {i a m : Nat} : ∀ {cl : List Did} {n : Nat}, hidden (claimed as i a m cl) n = true → n < m
  | [], n, h => by simp [claimed, hidden] at h
  | (j, lo, hi, ws) :: cl, n, h => by
    simp only [claimed] at h
    split at h
    · exact hidden_claimed h
    · split at h
      · exact hidden_claimed h
      · rw [hidden_append, Bool.or_eq_true] at h
        rcases h with h | h
        · exact (hidden_elder.1 h).2
        · exact hidden_claimed h

theorem claimed_hidden {as : List Nat} {i a m : Nat} : ∀ {cl : List Did} {n j lo hi : Nat} {ws : List Nat}, (j, lo, hi, ws) ∈ cl → n ∈ ws → n < m → i ≠ j → tied as i a j = false → hidden (claimed as i a m cl) n = true
  | [], n, j, lo, hi, ws, h, _, _, _, _ => by simp at h
  | (j0, lo0, hi0, ws0) :: cl, n, j, lo, hi, ws, h, hn, hm, hij, ht => by
    simp only [claimed]
    rcases List.mem_cons.1 h with h | h
    · cases h
      split
      · cases hn
      · split
        · rename_i hb
          rw [ht, Bool.or_false] at hb
          exact absurd (beq_eq hb) hij
        · rw [hidden_append, hidden_elder.2 ⟨hn, hm⟩]
          rfl
    · have ih := claimed_hidden h hn hm hij ht
      split
      · exact ih
      · split
        · exact ih
        · rw [hidden_append, ih, Bool.or_true]

theorem allTied_mem {as : List Nat} {j a : Nat} : ∀ {r : List Did}, allTied as j a r = true → ∀ i lo hi ws, (i, lo, hi, ws) ∈ r → i = j ∨ tied as j a i = true
  | [], _, i, lo, hi, ws, hx => by simp at hx
  | (i0, lo0, hi0, ws0) :: r, h, i, lo, hi, ws, hx => by
    simp only [allTied] at h
    split at h
    · rename_i hb
      rcases List.mem_cons.1 hx with hx | hx
      · cases hx
        rw [Bool.or_eq_true] at hb
        rcases hb with hb | hb
        · exact .inl (beq_eq hb)
        · exact .inr hb
      · exact allTied_mem h i lo hi ws hx
    · cases h

theorem foretold_mem {cl : List Did} {j n : Nat} (h : foretold cl j n = true) : ∃ lo hi ws, (j, lo, hi, ws) ∈ cl ∧ n ∈ ws := by
  obtain ⟨⟨j', lo, hi, ws⟩, h1, h2⟩ := List.any_eq_true.1 h
  rw [Bool.and_eq_true] at h2
  obtain ⟨h2, h3⟩ := h2
  obtain ⟨m, h4, h5⟩ := List.any_eq_true.1 h3
  have e1 : j' = j := beq_eq h2
  have e2 : n = m := beq_eq h5
  subst e1; subst e2
  exact ⟨lo, hi, ws, h1, h4⟩

theorem calm_mem {as : List Nat} {cl all : List Did} : ∀ {r : List Did}, calm as cl all r = true → ∀ j lo hi ws, (j, lo, hi, ws) ∈ r → ∀ n, n ∈ ws → allTied as j ((as[j]?).getD 0) all = true ∨ ∃ lo hi ws, (j, lo, hi, ws) ∈ cl ∧ n ∈ ws
  | [], _, j, lo, hi, ws, hx, _, _ => by simp at hx
  | (j0, lo0, hi0, ws0) :: r, h, j, lo, hi, ws, hx, n, hn => by
    simp only [calm] at h
    split at h
    · rcases List.mem_cons.1 hx with hx | hx
      · cases hx; cases hn
      · exact calm_mem h j lo hi ws hx n hn
    · split at h
      · rename_i hb
        rcases List.mem_cons.1 hx with hx | hx
        · cases hx
          rw [Bool.or_eq_true] at hb
          rcases hb with hb | hb
          · exact .inl hb
          · exact .inr (foretold_mem (List.all_eq_true.1 hb n hn))
        · exact calm_mem h j lo hi ws hx n hn
      · cases h

theorem tied_cases {L : List Oper} {i j : Nat} (h : tied (ancs L) i (anc L i) j = true) : Nat.testBit (anc L i) j = true ∨ Nat.testBit (anc L j) i = true := by
  unfold tied at h
  split at h
  · rename_i hb; exact .inl hb
  · split at h
    · rename_i a ha
      right
      unfold anc
      rw [ha]
      exact h
    · cases h

theorem noIns_mem {L : List Oper} : ∀ {cl : List Did} {j : Nat} {d : Nat × Nat × List Nat}, (j, d) ∈ cl → (∃ o, L[j]? = some o ∧ isIns o.op = false) → (j, d) ∈ noIns L cl
  | [], j, d, h, _ => by simp at h
  | (j0, d0) :: cl, j, d, h, ho => by
    have keep : ∀ {x}, x ∈ noIns L cl → x ∈ noIns L ((j0, d0) :: cl) := by
      intro x hx
      cases hL : L[j0]? with
      | none => simp only [noIns, hL]; exact hx
      | some o =>
        cases hi : isIns o.op
        · simp only [noIns, hL, hi]; exact List.mem_cons_of_mem _ hx
        · simp only [noIns, hL, hi]; exact hx
    rcases List.mem_cons.1 h with h | h
    · cases h
      obtain ⟨o, hL, hi⟩ := ho
      simp only [noIns, hL, hi]
      exact List.mem_cons_self ..
    · exact keep (noIns_mem h ho)

section
variable {cx : Cx} {ih : Runs} {nt : Nat} {L : List Oper} {ad : Bool} {cl : List Did} {T : Tr}

/-- The i-th operation looks at memory. -/
def Loud (cx : Cx) (ih : Runs) (nt : Nat) (L : List Oper) (ad : Bool) (cl : List Did) (T : Tr) (i : Nat) : Prop := ∃ o, L[i]? = some o ∧
  StepL cx ih nt L ad cl i o (anc L i) (T.st i) (T.st (i + 1)) (T.ts i) (T.ts (i + 1)) (T.rn i) (T.rn (i + 1)) (T.vl i)
/-- The i-th operation puts an entry into a map by a literal. -/
def Adder (cx : Cx) (nt : Nat) (L : List Oper) (ad : Bool) (cl : List Did) (T : Tr) (i : Nat) : Prop := ∃ o, L[i]? = some o ∧
  StepA cx nt L ad cl i o (anc L i) (T.st i) (T.st (i + 1)) (T.ts i) (T.ts (i + 1)) (T.rn i) (T.rn (i + 1)) (T.vl i)

structure Whole (cx : Cx) (ih : Runs) (nt : Nat) (L : List Oper) (ad : Bool) (cl : List Did) (T : Tr) : Prop where
  step : ∀ i o, L[i]? = some o → T.step cx ih nt L ad cl i o (anc L i)
  kp : KpOK ih
  rn0 : T.rn 0 = []
  calm : calm (ancs L) cl (T.rn L.length) (T.rn L.length) = true
  back : ∀ (k : Nat) (o : Oper), L[k]? = some o → ∀ e ∈ o.after.toList, Region.binds .any e = true → e.on < k
  bound : ∀ n o, (T.st 0).heap.get n = some o → n < (T.st 0).next

theorem loud_lt {j : Nat} (h : Loud cx ih nt L ad cl T j) : j < L.length := by
  obtain ⟨o, ho, _⟩ := h
  exact (List.getElem?_eq_some_iff.1 ho).1
theorem adder_lt {j : Nat} (h : Adder cx nt L ad cl T j) : j < L.length := by
  obtain ⟨o, ho, _⟩ := h
  exact (List.getElem?_eq_some_iff.1 ho).1

theorem loud_rn {i : Nat} (h : Loud cx ih nt L ad cl T i) : T.rn (i + 1) ≠ T.rn i := by
  obtain ⟨o, _, _, _, s', _, _, h, _⟩ := h
  intro e
  rw [e] at h
  have := congrArg List.length h
  simp at this
theorem adder_rn {i : Nat} (h : Adder cx nt L ad cl T i) : T.rn (i + 1) ≠ T.rn i := by
  obtain ⟨o, _, _, _, _, _, _, n, kt, k, x, es, _, h, _⟩ := h
  intro e
  rw [e] at h
  have := congrArg List.length h
  simp at this

theorem not_both {i : Nat} (h : Loud cx ih nt L ad cl T i) (h' : Adder cx nt L ad cl T i) : False := by
  obtain ⟨o, ho, _, h1, _⟩ := h
  obtain ⟨o', ho', _, h2, h3, _⟩ := h'
  rw [ho] at ho'
  cases ho'
  rw [h1 h2] at h3
  cases h3

theorem Whole.cases (W : Whole cx ih nt L ad cl T) {i : Nat} (hi : i < L.length) : Loud cx ih nt L ad cl T i ∨ Adder cx nt L ad cl T i ∨ (¬ Loud cx ih nt L ad cl T i ∧ ¬ Adder cx nt L ad cl T i ∧ T.st (i + 1) = T.st i ∧ T.rn (i + 1) = T.rn i) := by
  have ho : L[i]? = some L[i] := List.getElem?_eq_getElem hi
  rcases W.step i _ ho with ⟨_, _, _, _, h1, h3⟩ | ⟨_, _, _, h1, h3⟩ | h | h
  · exact .inr (.inr ⟨fun h => loud_rn h h3, fun h => adder_rn h h3, h1, h3⟩)
  · exact .inr (.inr ⟨fun h => loud_rn h h3, fun h => adder_rn h h3, h1, h3⟩)
  · exact .inl ⟨_, ho, h⟩
  · exact .inr (.inl ⟨_, ho, h⟩)

theorem Whole.kp1 (W : Whole cx ih nt L ad cl T) {i : Nat} (hi : i < L.length) : Kp (T.st i) (T.st (i + 1)) := by
  rcases W.cases hi with ⟨o, ho, _, _, s', h1, _, _, h2⟩ | ⟨o, ho, _, _, _, _, _, n, kt, k, x, es, h1, _, h2⟩ | ⟨_, _, h, _⟩
  · rw [h2]
    rw [← List.append_assoc] at h1
    exact (oneOp_kp W.kp h1).within
  · rw [h2]
    rw [← List.append_assoc] at h1
    obtain ⟨_, _, _, _, _, _, _, _, _, _, _, hs, _⟩ := addOne_ok h1
    exact Kp.set (see_of_hid hs) _
  · rw [h]
    exact Kp.refl _

theorem Whole.kps (W : Whole cx ih nt L ad cl T) (i : Nat) : ∀ d, i + d ≤ L.length → Kp (T.st i) (T.st (i + d))
  | 0, _ => Kp.refl _
  | d + 1, h => (W.kps i d (by omega)).trans (W.kp1 (by omega))

theorem Whole.kp' (W : Whole cx ih nt L ad cl T) {i j : Nat} (h : i ≤ j) (hj : j ≤ L.length) : Kp (T.st i) (T.st j) := by
  have := W.kps i (j - i) (by omega)
  rw [show i + (j - i) = j by omega] at this
  exact this

/-- What an operation has made or written, or has put into a map. -/
def Made (cx : Cx) (ih : Runs) (nt : Nat) (L : List Oper) (ad : Bool) (cl : List Did) (T : Tr) (j nm : Nat) : Prop := Loud cx ih nt L ad cl T j ∧ (T.st j).next ≤ nm ∧ nm < (T.st (j + 1)).next
def Wrote (cx : Cx) (ih : Runs) (nt : Nat) (L : List Oper) (ad : Bool) (cl : List Did) (T : Tr) (j nm : Nat) : Prop := Loud cx ih nt L ad cl T j ∧ nm < (T.st j).next ∧ ∃ ws, T.rn (j + 1) = (j, (T.st j).next, (T.st (j + 1)).next, ws) :: T.rn j ∧ nm ∈ ws
def Adds (cx : Cx) (L : List Oper) (ad : Bool) (cl : List Did) (T : Tr) (j nm : Nat) (kt : TypeId) (e : Value × SV) : Prop := ∃ o, L[j]? = some o ∧ wanted L o (T.ts j) = some true ∧ ad = true ∧ isIns o.op = true ∧ T.vl j = .lit undef ∧
  ∃ es, addOne cx (eval (T.ts j)) { T.st j with hid := hides (anc L j) (T.rn j) ++ (claimed (ancs L) j (anc L j) (T.st j).next (noIns L cl) ++ (T.st j).hid), wr := [] } o.op = some (nm, kt, e.1, e.2, es) ∧
    T.rn (j + 1) = (j, (T.st j).next, (T.st (j + 1)).next, [nm]) :: T.rn j ∧ (T.st j).see nm = some (.map kt es) ∧ T.st (j + 1) = (T.st j).set nm (.map kt (es ++ [e]))

theorem adder_adds {j : Nat} (h : Adder cx nt L ad cl T j) : ∃ nm kt e, Adds cx L ad cl T j nm kt e := by
  obtain ⟨o, ho, hw, h1, h2, hv, _, n, kt, k, x, es, h3, h4, h5⟩ := h
  refine ⟨n, kt, (k, x), o, ho, hw, h1, h2, hv, es, h3, ?_, ?_, h5⟩
  · rw [h4, h5]; rfl
  · rw [← List.append_assoc] at h3
    obtain ⟨_, _, _, _, _, _, _, _, _, _, _, hs, _⟩ := addOne_ok h3
    exact see_of_hid hs
theorem adds_lt {j nm : Nat} {kt : TypeId} {e : Value × SV} (h : Adds cx L ad cl T j nm kt e) : j < L.length := by
  obtain ⟨o, ho, _⟩ := h
  exact (List.getElem?_eq_some_iff.1 ho).1

theorem Whole.head (_W : Whole cx ih nt L ad cl T) {j : Nat} (h : Loud cx ih nt L ad cl T j) : ∃ ws, T.rn (j + 1) = (j, (T.st j).next, (T.st (j + 1)).next, ws) :: T.rn j := by
  obtain ⟨o, ho, _, _, s', _, _, h2, h3⟩ := h
  exact ⟨_, by rw [h2, h3]⟩

theorem Whole.mem_rn (W : Whole cx ih nt L ad cl T) : ∀ i, i ≤ L.length → ∀ x, x ∈ T.rn i ↔ ∃ j, j < i ∧ ∃ ws, T.rn (j + 1) = (j, (T.st j).next, (T.st (j + 1)).next, ws) :: T.rn j ∧ x = (j, (T.st j).next, (T.st (j + 1)).next, ws)
  | 0, _, x => by rw [W.rn0]; simp
  | i + 1, hi, x => by
    have ih' := W.mem_rn i (by omega) x
    have key : (∃ ws, T.rn (i + 1) = (i, (T.st i).next, (T.st (i + 1)).next, ws) :: T.rn i) ∨ T.rn (i + 1) = T.rn i := by
      rcases W.cases (i := i) (by omega) with hl | ha | ⟨_, _, _, h3⟩
      · exact .inl (W.head hl)
      · obtain ⟨nm, kt, e, _, _, _, _, _, _, es, _, h, _⟩ := adder_adds ha
        exact .inl ⟨_, h⟩
      · exact .inr h3
    rcases key with ⟨ws, hh⟩ | h3
    · rw [hh, List.mem_cons, ih']
      constructor
      · rintro (rfl | ⟨j, hj, ws', h1, h2⟩)
        · exact ⟨i, by omega, ws, hh, rfl⟩
        · exact ⟨j, by omega, ws', h1, h2⟩
      · rintro ⟨j, hj, ws', h1, h2⟩
        by_cases hji : j = i
        · subst hji
          rw [hh] at h1
          cases h1
          exact .inl h2
        · exact .inr ⟨j, by omega, ws', h1, h2⟩
    · rw [h3, ih']
      constructor
      · rintro ⟨j, hj, r⟩
        exact ⟨j, by omega, r⟩
      · rintro ⟨j, hj, ws', h1, h2⟩
        by_cases hji : j = i
        · subst hji
          rw [h3] at h1
          have := congrArg List.length h1
          simp at this
        · exact ⟨j, by omega, ws', h1, h2⟩

theorem Whole.raw_lt (W : Whole cx ih nt L ad cl T) {i nm : Nat} (hi : i ≤ L.length) {o : SO} (h : (T.st i).heap.get nm = some o) : nm < (T.st i).next := by
  have := (W.kp' (Nat.zero_le _) hi).top (fun n hn => by
    cases hr : (T.st 0).heap.get n with
    | none => rfl
    | some o' => have := W.bound n o' hr; omega) nm
  by_cases hlt : nm < (T.st i).next
  · exact hlt
  · rw [this (by omega)] at h; cases h

/-- What an operation neither makes nor writes, nor puts an entry into, is as it was. -/
theorem Whole.same (W : Whole cx ih nt L ad cl T) {i nm : Nat} (hi : i < L.length) (h1 : ¬ Made cx ih nt L ad cl T i nm) (h2 : ¬ Wrote cx ih nt L ad cl T i nm) (h3 : ∀ kt e, ¬ Adds cx L ad cl T i nm kt e) : (T.st (i + 1)).heap.get nm = (T.st i).heap.get nm := by
  rcases W.cases hi with hl | ha | ⟨_, _, h, _⟩
  · by_cases hlt : nm < (T.st i).next
    · obtain ⟨o, ho, _, _, s', g1, _, g2, g3⟩ := id hl
      rw [← List.append_assoc] at g1
      have hk := oneOp_kp W.kp g1
      rw [g3]
      refine hk.keepw nm hlt fun hw => h2 ⟨hl, hlt, _, by rw [g2, g3], mem_eldest.2 ⟨hw, hlt⟩⟩
    · have hnot : ¬ nm < (T.st (i + 1)).next := fun hh => h1 ⟨hl, by omega, hh⟩
      cases ha : (T.st (i + 1)).heap.get nm with
      | some o => exact absurd (W.raw_lt (by omega) ha) hnot
      | none =>
        cases hb : (T.st i).heap.get nm with
        | some o => exact absurd (W.raw_lt (by omega) hb) hlt
        | none => rfl
  · obtain ⟨n, kt, e, ha⟩ := adder_adds ha
    have hne : nm ≠ n := fun h => by subst h; exact h3 kt e ha
    obtain ⟨_, _, _, _, _, _, es, _, _, _, h5⟩ := ha
    rw [h5]
    simp only [St.set, Ev.T.get_put]
    rw [if_neg hne]
  · rw [h]

theorem Whole.still (W : Whole cx ih nt L ad cl T) {a nm : Nat} : ∀ d, a + d ≤ L.length → (∀ j, a ≤ j → j < a + d → ¬ Made cx ih nt L ad cl T j nm ∧ ¬ Wrote cx ih nt L ad cl T j nm ∧ ∀ kt e, ¬ Adds cx L ad cl T j nm kt e) → (T.st (a + d)).heap.get nm = (T.st a).heap.get nm
  | 0, _, _ => rfl
  | d + 1, hd, h => by
    have hd : a + d + 1 ≤ L.length := hd
    have ih := W.still (a := a) (nm := nm) d (by omega) (fun j h1 h2 => h j h1 (by omega))
    obtain ⟨h1, h2, h3⟩ := h (a + d) (by omega) (by omega)
    show (T.st (a + d + 1)).heap.get nm = _
    rw [W.same (by omega) h1 h2 h3, ih]

/-- What is ahead by edges is ahead in the text. -/
theorem Whole.anc_lt (W : Whole cx ih nt L ad cl T) : ∀ i, i < L.length → ∀ j, Nat.testBit (anc L i) j = true → j < i := by
  intro i
  induction i using Nat.strongRecOn with
  | ind i ih =>
    intro hi j hj
    have ho : L[i]? = some L[i] := List.getElem?_eq_getElem hi
    obtain ⟨e, he, hb, h⟩ := anc_spec ho (W.back i _ ho) hj
    have hlt := W.back i _ ho e he hb
    rcases h with rfl | h
    · exact hlt
    · have := ih e.on hlt (by omega) j h
      omega
end
end Go.Proofs.YtdkkblkbonjjgabGreatDoor.Ev
