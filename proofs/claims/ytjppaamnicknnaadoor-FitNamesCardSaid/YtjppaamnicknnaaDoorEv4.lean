/- The reckoner: steps of the machine; regions in the order of the text; what is kept. Conditions: those of each lemma. -/
import Derived.Test.YtjppaamnicknnaaDoorEv3
set_option linter.unusedSectionVars false
namespace Go.Proofs.YtjppaamnicknnaaDoor.Ev
open Go
variable [Env]

/-- A frame that runs. -/
def fr (f : FuncId) (tmps : Array Value) (todo : List Item) (ds : List Deferred) (ro : Option Nat) : Frame :=
  { fn := f, tmps := tmps, todo := todo, defers := ds, mode := .run, kind := .normal, roundOf := ro }

/-- The slots behind an operation. -/
def putA (tmps : Array Value) (dst : Option Tmp) (v : Value) : Array Value := match dst with
  | some d => tmps.setIfInBounds d v
  | none => tmps

section
variable {P : Program} {f : FuncId} {tmps : Array Value} {k : List Item} {ds : List Deferred} {ro : Option Nat} {cs : List Frame} {w : World}

theorem st_skip : step P (lone (fr f tmps (.code .skip :: k) ds ro) cs w) = .next (lone (fr f tmps k ds ro) cs w) := step_lone_go (by simp [stepG, stepG.exec, fr])
theorem st_label {l : Nat} : step P (lone (fr f tmps (.code (.label l) :: k) ds ro) cs w) = .next (lone (fr f tmps k ds ro) cs w) := step_lone_go (by simp [stepG, stepG.exec, fr])
theorem st_inBlock {id : Nat} : step P (lone (fr f tmps (.inBlock id :: k) ds ro) cs w) = .next (lone (fr f tmps k ds ro) cs w) := step_lone_go (by simp [stepG, stepG.exec, fr])
theorem st_inScope {c : Code} : step P (lone (fr f tmps (.inScope c :: k) ds ro) cs w) = .next (lone (fr f tmps k ds ro) cs w) := step_lone_go (by simp [stepG, stepG.exec, fr])
theorem st_seq {x y : Code} : step P (lone (fr f tmps (.code (.seq x y) :: k) ds ro) cs w) = .next (lone (fr f tmps (.code x :: .code y :: k) ds ro) cs w) := step_lone_go (by simp [stepG, stepG.exec, fr])
theorem st_cond {c : Operand} {x y : Code} {t : Bool} (h : (fr f tmps [] ds ro).eval c = .bool t) :
    step P (lone (fr f tmps (.code (.cond c x y) :: k) ds ro) cs w) = .next (lone (fr f tmps (.code (if t then x else y) :: k) ds ro) cs w) := by
  have h' : (fr f tmps (.code (.cond c x y) :: k) ds ro).eval c = .bool t := by cases c <;> exact h
  simp only [fr] at h'
  exact step_lone_go (by simp [stepG, stepG.exec, fr, h'])
theorem st_block {id : Nat} {c : Code} : step P (lone (fr f tmps (.code (.block id c) :: k) ds ro) cs w) = .next (lone (fr f tmps (.code c :: .inBlock id :: k) ds ro) cs w) := step_lone_go (by simp [stepG, stepG.exec, fr])
theorem st_loop {c : Code} : step P (lone (fr f tmps (.code (.loop c) :: k) ds ro) cs w) = .next (lone (fr f tmps (.code c :: .inLoop c :: k) ds ro) cs w) := step_lone_go (by simp [stepG, stepG.exec, fr])
theorem st_inLoop {c : Code} : step P (lone (fr f tmps (.inLoop c :: k) ds ro) cs w) = .next (lone (fr f tmps (.code c :: .inLoop c :: k) ds ro) cs w) := step_lone_go (by simp [stepG, stepG.exec, fr])
theorem st_scope {c : Code} : step P (lone (fr f tmps (.code (.scope c) :: k) ds ro) cs w) = .next (lone (fr f tmps (.code c :: .inScope c :: k) ds ro) cs w) := step_lone_go (by simp [stepG, stepG.exec, fr])
theorem st_exit {id : Nat} {k' : List Item} (h : Go.exitTo id k = some k') : step P (lone (fr f tmps (.code (.exit id) :: k) ds ro) cs w) = .next (lone (fr f tmps k' ds ro) cs w) := step_lone_go (by simp [stepG, stepG.exec, fr, h])
theorem st_region {id : Nat} {ops : Array Oper} : step P (lone (fr f tmps (.code (.region id ops false) :: k) ds ro) cs w) = .next (lone (fr f tmps (.inRegion ops (List.range ops.size) :: k) ds ro) cs w) := step_lone_go (by simp [stepG, stepG.exec, fr])
theorem st_region_draw {id : Nat} {ops : Array Oper} :
    step P (lone (fr f tmps (.code (.region id ops true) :: k) ds ro) cs w) = .next (lone (fr f tmps (.inRegion ops (Region.schedule (P.follows .mixedOrders) ops (w.tape w.drawn (.order f id))) :: k) ds ro) cs { w with drawn := w.drawn + 1 }) :=
  step_lone_go (by simp [stepG, stepG.exec, fr, choose, Sem.run, Question.forced, Question.cut])
theorem st_region_end {ops : Array Oper} : step P (lone (fr f tmps (.inRegion ops [] :: k) ds ro) cs w) = .next (lone (fr f tmps k ds ro) cs w) := step_lone_go (by simp [stepG, stepG.exec, fr])

theorem fr_finish {ops : Array Oper} {i : Nat} {rest : List Nat} {o : Oper} (ho : ops[i]? = some o) (v : Value) :
    (fr f tmps (.inRegion ops (i :: rest) :: k) ds ro).finish v = fr f (putA tmps o.dst v) (.inRegion ops rest :: k) ds ro := by
  simp only [Frame.finish, fr, ho, Option.bind_some, putA]
  cases o.dst <;> rfl

theorem st_op_skip {ops : Array Oper} {i : Nat} {rest : List Nat} {o : Oper} (ho : ops[i]? = some o) (hw : Region.wanted o (Go.yielded ops tmps) = false) :
    step P (lone (fr f tmps (.inRegion ops (i :: rest) :: k) ds ro) cs w) = .next (lone (fr f (putA tmps o.dst undef) (.inRegion ops rest :: k) ds ro) cs w) := by
  rw [← fr_finish ho]
  simp only [fr]
  exact step_lone_go (by simp [stepG, stepG.exec, ho, hw])

/-- An operation that is no 'defer'. -/
def plainOp : Op → Bool
  | .defer _ => false
  | _ => true

theorem stepG_fr {ops : Array Oper} {i : Nat} {rest : List Nat} {o : Oper} (ho : ops[i]? = some o) (hw : Region.wanted o (Go.yielded ops tmps) = true) (hp : plainOp o.op = true) :
    stepG P true { frame := fr f tmps (.inRegion ops (i :: rest) :: k) ds ro, callers := cs, status := .running, dying := none } w =
      stepG.apply P true (fr f tmps (.inRegion ops (i :: rest) :: k) ds ro) cs none (execOp (fr f tmps [] ds ro).eval o) w := by
  have he : (fr f tmps (.inRegion ops (i :: rest) :: k) ds ro).eval = (fr f tmps [] ds ro).eval := by funext x; cases x <;> rfl
  simp only [stepG, stepG.exec, fr, stepG.oper, Frame.oper?, ho, hw, Option.map_some, Option.getD_some, if_true]
  simp only [fr] at he
  cases ro with
  | none => rw [he]
  | some l =>
    obtain ⟨dst, op, type, pos, after, guard⟩ := o
    cases op <;> first
      | (simp [plainOp] at hp; done)
      | rw [he]

theorem st_op_value {ops : Array Oper} {i : Nat} {rest : List Nat} {o : Oper} (ho : ops[i]? = some o) (hw : Region.wanted o (Go.yielded ops tmps) = true) (hp : plainOp o.op = true) {v : Value} {w' : World}
    (hr : (execOp (fr f tmps [] ds ro).eval o).run P w = .ok (.value v) w' ∨ (execOp (fr f tmps [] ds ro).eval o).run P w = .ok .skip w' ∧ v = undef) :
    step P (lone (fr f tmps (.inRegion ops (i :: rest) :: k) ds ro) cs w) = .next (lone (fr f (putA tmps o.dst v) (.inRegion ops rest :: k) ds ro) cs w') := by
  rw [← fr_finish ho]
  refine step_lone_go ?_
  rw [stepG_fr ho hw hp]
  rcases hr with hr | ⟨hr, rfl⟩ <;> simp [stepG.apply, hr]

theorem st_op_enter {ops : Array Oper} {i : Nat} {rest : List Nat} {o : Oper} (ho : ops[i]? = some o) (hw : Region.wanted o (Go.yielded ops tmps) = true) (hp : plainOp o.op = true) {g : FuncId} {args : Array Value} {w' : World}
    (hr : (execOp (fr f tmps [] ds ro).eval o).run P w = .ok (.enter g args) w') :
    step P (lone (fr f tmps (.inRegion ops (i :: rest) :: k) ds ro) cs w) = .next (lone (Frame.enter P g args .normal) (fr f tmps (.inRegion ops (i :: rest) :: k) ds ro :: cs) w') := by
  refine step_lone_go ?_
  rw [stepG_fr ho hw hp]
  simp only [stepG.apply, Sem.runT_eq, hr, if_true, GStep.bare_after]
  rfl

theorem st_op_round {ops : Array Oper} {i : Nat} {rest : List Nat} {o : Oper} (ho : ops[i]? = some o) (hw : Region.wanted o (Go.yielded ops tmps) = true) (hp : plainOp o.op = true) {l : Nat} {g : FuncId} {ts : Array Value} {as body : Code} {w' : World}
    (hr : (execOp (fr f tmps [] ds ro).eval o).run P w = .ok (.round l g ts as body) w') :
    step P (lone (fr f tmps (.inRegion ops (i :: rest) :: k) ds ro) cs w) = .next (lone (Frame.round l g ts as body .normal) (fr f tmps (.inRegion ops (i :: rest) :: k) ds ro :: cs) w') := by
  refine step_lone_go ?_
  rw [stepG_fr ho hw hp]
  simp only [stepG.apply, Sem.runT_eq, hr, if_true, GStep.bare_after]
  rfl

/-- A frame ends. -/
theorem st_ret : step P (lone (fr f tmps (.code .ret :: k) ds none) cs w) = .next (lone { fr f tmps (.code .ret :: k) ds none with mode := .returning } cs w) := step_lone_go (by simp [stepG, stepG.exec, fr])
theorem st_end : step P (lone (fr f tmps [] ds none) cs w) = .next (lone { fr f tmps [] ds none with mode := .returning } cs w) := step_lone_go (by simp [stepG, stepG.exec, fr])
theorem st_taken {todo : List Item} {b : Nat} {w' : World} (hr : (Instr.takeDeferred b).run P w = .ok [] w') :
    step P (lone { fr f tmps todo ({ target := .collected b, args := #[] } :: ds) none with mode := .returning } cs w) = .next (lone { fr f tmps todo ds none with mode := .returning } cs w') :=
  step_lone_go (by simp [stepG, unwind, fr, hr])

/-- A round ends. -/
theorem st_round_end {l : Nat} {c : Frame} {v : Value} {w' : World} (hr : (Instr.endRound l none).run P w = .ok v w') :
    step P (lone (fr f tmps [] [] (some l)) (c :: cs) w) = .next (lone (c.finish v) cs w') :=
  step_lone_go (by simp [stepG, stepG.exec, fr, hr, doReturn])
theorem st_round_ret {l : Nat} {c : Frame} {v : Value} {w' : World} (hr : (Instr.endRound l (some .ret)).run P w = .ok v w') :
    step P (lone (fr f tmps (.code .ret :: k) [] (some l)) (c :: cs) w) = .next (lone (c.finish v) cs w') :=
  step_lone_go (by simp [stepG, stepG.exec, fr, hr, doReturn])
theorem st_round_exit {l id : Nat} {c : Frame} {v : Value} {w' : World} (hx : Go.exitTo id k = none) (hr : (Instr.endRound l (some (.exit id))).run P w = .ok v w') :
    step P (lone (fr f tmps (.code (.exit id) :: k) [] (some l)) (c :: cs) w) = .next (lone (c.finish v) cs w') :=
  step_lone_go (by simp [stepG, stepG.exec, fr, hx, hr, doReturn])
theorem st_beginRound {l : Nat} {w' : World} (hr : (Instr.beginRound l).run P w = .ok () w') :
    step P (lone (fr f tmps (.beginRound :: k) ds (some l)) cs w) = .next (lone (fr f tmps k ds (some l)) cs w') :=
  step_lone_go (by simp [stepG, stepG.exec, stepG.apply, fr, hr, Frame.finish])
theorem st_endRangeFunc {l : Nat} {j : Option Code} {w' : World} (hr : (Instr.endLoop l).run P w = .ok j w') :
    step P (lone (fr f tmps (.endRangeFunc l :: k) ds ro) cs w) = .next (lone (fr f tmps ((j.map Item.code).toList ++ k) ds ro) cs w') :=
  step_lone_go (by simp [stepG, stepG.exec, fr, hr])
theorem fr_finish_loop {l : Nat} (v : Value) : (fr f tmps (.inRangeFunc l :: k) ds ro).finish v = fr f tmps (.endRangeFunc l :: k) ds ro := rfl
theorem st_rangeFunc {fo : Operand} {params : Array Tmp} {as body : Code} {l : Nat} {mark : List Deferred} {w1 w2 : World} {g : FuncId} {args : Array Value} {d : Deferred}
    (h1 : (Instr.enterLoop f tmps params as body ro).run P w = .ok (l, mark) w1)
    (hres : (resolve (fr f tmps [] ds ro).eval { callee := .value fo, args := #[.const (.func (.yield l) #[] #[])], argTypes := #[] } 0).run P w1 = .ok d w1)
    (hinv : (invoke d.target d.args).run P w1 = .ok (.enter g args) w2) :
    step P (lone (fr f tmps (.code (.rangeFunc fo params as body) :: k) ds ro) cs w) = .next (lone (Frame.enter P g args .normal) (fr f tmps (.inRangeFunc l :: k) (mark ++ ds) ro :: cs) w2) := by
  refine step_lone_go ?_
  have he : (fr f tmps (.inRangeFunc l :: k) (mark ++ ds) ro).eval = (fr f tmps [] ds ro).eval := by funext x; cases x <;> rfl
  rw [← he] at hres
  simp only [fr] at hres
  simp [stepG, stepG.exec, fr, h1, stepG.apply, hres, hinv]
end
end Go.Proofs.YtjppaamnicknnaaDoor.Ev

namespace Go.Proofs.YtjppaamnicknnaaDoor.Ev
open Go
variable [Env]

/-- What is asked of the program. -/
structure Good (P : Program) : Prop where
  names : ∀ (g : Nat) (fn : Func), P.funcs[g]? = some fn → fn.body.isSome = true → (fn.name == "runtime.NumGoroutine") = false
  mixed : P.follows .mixedOrders = true

def Starts (P : Program) (ρ : Nm) : Task → Frame → Prop
  | .call g args, fm => ∃ us, concs ρ args = some us ∧ fm = Frame.enter P g us.toArray .normal
  | .round l g nt tt as body, fm => ∃ lb lc tmps, ρ l = some (lb, lc) ∧ TRel ρ nt tt tmps ∧ fm = Frame.round lb g tmps as body .normal

def TaskOK (cx : Cx) (B : Nat) (t : Task) (s s' : St) (v : SV) : Prop :=
  (∀ g args, t = .call g args → ∃ fn, cx.P.funcs[g]? = some fn ∧ fn.body.isSome = true) ∧
  ∀ ρ w, Rel cx B ρ w s → Fresh ρ s.next s'.next → ∀ fm, Starts cx.P ρ t fm → ∀ c cs, ∃ ρ' w' cv,
    Steps cx.P (lone fm (c :: cs) w) (lone (c.finish cv) cs w') ∧ conc ρ' v = some cv ∧ Rel cx B ρ' w' s' ∧ Ext s s' ρ ρ' w w'

section
variable {cx : Cx} {B : Nat} {ρ : Nm} {w : World} {s s' : St} {v : SV} {f : FuncId} {tmps : Array Value} {k : List Item} {ds : List Deferred} {ro : Option Nat} {cs : List Frame} {nt : Nat} {tt tt' : T SV}

theorem eval_ok (hT : TRel ρ nt tt tmps) {x : Operand} {sv : SV} (h : eval tt x = some sv) : conc ρ sv = some ((fr f tmps k ds ro).eval x) := by
  cases x with
  | tmp t =>
    obtain ⟨u, h1, h2⟩ := hT.2 t sv h
    rw [h1]
    simp [Frame.eval, fr, h2]
  | const c => simp only [eval, Option.some.injEq] at h; subst h; exact conc_lit _ _
  | global g => simp only [eval, Option.some.injEq] at h; subst h; exact conc_lit _ _
  | func g => simp only [eval, Option.some.injEq] at h; subst h; exact conc_fn (concs_nil _)

theorem putT_ok (hT : TRel ρ nt tt tmps) {dst : Option Tmp} {cv : Value} (h : putT nt tt dst v = some tt') (hv : conc ρ v = some cv) : TRel ρ nt tt' (putA tmps dst cv) := by
  unfold putT at h
  split at h
  · rename_i d
    split at h
    · rename_i hd
      cases h
      have hlt := blt_lt hd
      refine ⟨by simp [putA, hT.1], fun i sv hi => ?_⟩
      rw [T.get_put] at hi
      by_cases e : i = d
      · rw [if_pos e] at hi
        cases hi
        subst e
        exact ⟨cv, hv, by simp [putA, hT.1, hlt]⟩
      · rw [if_neg e] at hi
        obtain ⟨u, h1, h2⟩ := hT.2 i sv hi
        exact ⟨u, h1, by simp [putA, Ne.symm e, h2]⟩
    · cases h
  · cases h
    exact hT

theorem conc_bool {sv : SV} {b : Bool} (h : conc ρ sv = some (.bool b)) : sv = .lit (.bool b) := by
  cases sv with
  | lit x => rw [conc_lit] at h; cases h; rfl
  | sint k e => simp only [conc, Option.some.injEq] at h; cases h
  | sstr e => simp only [conc, Option.some.injEq] at h; cases h
  | _ =>
    simp only [conc, Option.map_eq_some_iff] at h
    obtain ⟨p, _, hp⟩ := h
    cases hp

theorem wanted_ok (hT : TRel ρ nt tt tmps) {ops : Array Oper} {o : Oper} {b : Bool} (h : wanted ops.toList o tt = some b) : Region.wanted o (Go.yielded ops tmps) = b := by
  unfold wanted at h
  unfold Region.wanted
  cases hg : o.guard with
  | none => rw [hg] at h; simpa using h
  | some jw =>
    obtain ⟨j, want⟩ := jw
    rw [hg] at h
    dsimp only at h ⊢
    split at h
    · rename_i g hj
      split at h
      · rename_i d hd
        have hj' : ops[j]? = some g := by simpa using hj
        split at h
        · rename_i b' hb
          obtain ⟨u, h1, h2⟩ := hT.2 d _ hb
          rw [conc_lit] at h1
          cases h1
          have : Go.yielded ops tmps j = some b' := by simp [Go.yielded, hj', hd, h2]
          rw [this]
          cases b' <;> cases want <;> simp_all
        · rename_i sv hne hb
          cases h
          obtain ⟨u, h1, h2⟩ := hT.2 d _ hb
          have : Go.yielded ops tmps j = none := by
            simp only [Go.yielded, hj', Option.bind_some, hd, h2]
            cases u <;> first | rfl | exact absurd (conc_bool h1) (hne _)
          rw [this]
          rfl
        · cases h
      · cases h
    · cases h

theorem run_callFunc (hG : Good cx.P) {g : FuncId} {fn : Func} (hf : cx.P.funcs[g]? = some fn) (hb : fn.body.isSome = true) (args : Array Value) : (callFunc g args).run cx.P w = .ok (.enter g args) w := by
  have hn := hG.names g fn hf hb
  have hb' : fn.body.isNone = false := by cases h : fn.body <;> simp_all
  simp only [callFunc, Sem.run_bind, run_program, Result.andThen_ok, hf, hn, Bool.false_eq_true, if_false, hb', Sem.run_pure]

theorem putAll_ok : ∀ {l : List (Tmp × SV)} {us : List Value} {tt tt' : T SV} {tmps : Array Value}, TRel ρ nt tt tmps → putAll nt tt l = some tt' → concs ρ (l.map (·.2)) = some us →
    TRel ρ nt tt' (((l.map (·.1)).zip us).foldl (fun (ts : Array Value) (p : Tmp × Value) => ts.setIfInBounds p.1 p.2) tmps)
  | [], us, tt, tt', tmps, hT, h, hu => by
    simp only [putAll, Option.some.injEq] at h
    subst h
    simpa using hT
  | (d, x) :: l, us, tt, tt', tmps, hT, h, hu => by
    simp only [List.map_cons] at hu
    obtain ⟨u, us', h1, h2, rfl⟩ := concs_cons_iff.1 hu
    simp only [putAll] at h
    split at h
    · rename_i t1 hp
      have := putT_ok hT hp h1
      simp only [List.map_cons, List.zip_cons_cons, List.foldl_cons]
      exact putAll_ok this h h2
    · cases h

theorem run_getLoop {b : Nat} {r : Loop} (h : w.heap[b]? = some (.loop r)) : (Instr.getLoop b).run cx.P w = .ok r w := by
  simp [Instr.getLoop, getObj, Sem.run, h]

/-- What a call of a function value comes to. -/
theorem target_ok (hG : Good cx.P) (hR : Rel cx B ρ w s) {fv : SV} {args : List SV} {t : Task} {u : Value} {us : List Value} (h : target s fv args = some t) (hfv : conc ρ fv = some u) (ha : concs ρ args = some us)
    (hfun : ∀ g as, t = .call g as → ∃ fn, cx.P.funcs[g]? = some fn ∧ fn.body.isSome = true) :
    ∃ d, (∀ w', (Deferred.ofValue u us.toArray).run cx.P w' = .ok d w') ∧
      ((∃ g as, (invoke d.target d.args).run cx.P w = .ok (.enter g as) w ∧ Starts cx.P ρ t (Frame.enter cx.P g as .normal)) ∨
       (∃ lb g ts as body, (invoke d.target d.args).run cx.P w = .ok (.round lb g ts as body) w ∧ Starts cx.P ρ t (Frame.round lb g ts as body .normal))) := by
  unfold target at h
  split at h
  · rename_i g caps
    cases h
    simp only [conc, Option.map_eq_some_iff] at hfv
    obtain ⟨vs, h1, rfl⟩ := hfv
    refine ⟨{ target := .fn (.func g) vs.toArray, args := #[] ++ us.toArray }, fun w' => rfl, .inl ⟨g, (us ++ vs).toArray, ?_, us ++ vs, concs_append ha h1, rfl⟩⟩
    obtain ⟨fn, hf, hb⟩ := hfun g _ rfl
    have : (#[] ++ us.toArray ++ vs.toArray : Array Value) = (us ++ vs).toArray := by simp
    simp only [invoke, this]
    exact run_callFunc hG hf hb _
  · rename_i g first caps
    split at h
    · rename_i e1 e2
      cases h
      rw [conc_lit] at hfv
      cases hfv
      have e1' : first = #[] := by apply Array.ext'; simpa using e1
      have e2' : caps = #[] := by apply Array.ext'; simpa using e2
      subst e1'; subst e2'
      refine ⟨{ target := .fn (.func g) #[], args := #[] ++ us.toArray }, fun w' => rfl, .inl ⟨g, us.toArray, ?_, us, ha, rfl⟩⟩
      obtain ⟨fn, hf, hb⟩ := hfun g _ rfl
      have : (#[] ++ us.toArray ++ #[] : Array Value) = us.toArray := by simp
      simp only [invoke, this]
      exact run_callFunc hG hf hb _
    · cases h
  · rename_i n
    split at h
    · rename_i st p fn nt tt params as body dd hs
      split at h
      · rename_i tt1 hlen hput
        cases h
        obtain ⟨b, cap, ob, h1, h2, h3, tmps, db, dc, h4, h5, rfl⟩ := hR.obj n _ hs
        simp only [conc, h1, Option.map_some, Option.some.injEq] at hfv
        subst hfv
        have hl : params.length = args.length := beq_eq hlen
        have hus := concs_length ha
        have hmap : (params.zip args).map (·.2) = args := List.map_snd_zip (by omega)
        have hmap1 : (params.zip args).map (·.1) = params := List.map_fst_zip (by omega)
        have hT := putAll_ok h4 hput (us := us) (by rw [hmap]; exact ha)
        rw [hmap1] at hT
        refine ⟨{ target := .fn (.yield b) #[], args := #[] ++ us.toArray }, fun w' => rfl, .inr ⟨b, fn, _, as, body, ?_, b, cap, _, h1, hT, rfl⟩⟩
        have : (#[] ++ us.toArray : Array Value) = us.toArray := by simp
        simp only [invoke, this, Instr.yield, Sem.run_bind, run_getLoop h3, Result.andThen_ok]
        rw [if_neg (by simp; omega)]
        simp
      · cases h
    · cases h
  · cases h

theorem find_noEscape {fn : Func} (h : (fn.name == "internal/abi.NoEscape") = true) : Extern.find fn = some Extern.AbiNoEscape.same := by
  have h := eq_of_beq h
  unfold Extern.find
  rw [h]
  rfl

/-- A call of a function without a Go body. -/
theorem bare_ok {fv : SV} {args : List SV} {t : Task} {u : Value} {us : List Value} (h : target s fv args = some t) (hfv : conc ρ fv = some u) (ha : concs ρ args = some us) {r : SV} (hb : bare cx t = some r) :
    ∃ d cv, (∀ w', (Deferred.ofValue u us.toArray).run cx.P w' = .ok d w') ∧ (invoke d.target d.args).run cx.P w = .ok (.value cv) w ∧ conc ρ r = some cv := by
  have key : ∀ {g : FuncId} {as : List SV} {vs : List Value}, bare cx (.call g as) = some r → concs ρ as = some vs → ∃ cv, (callFunc g vs.toArray).run cx.P w = .ok (.value cv) w ∧ conc ρ r = some cv := by
    intro g as vs hb hvs
    unfold bare at hb
    dsimp only at hb
    split at hb
    · rename_i fn hfn
      split at hb
      · cases hb
      · rename_i hbody
        split at hb
        · rename_i ws hws
          have := mapM_toValue hws hvs
          subst this
          split at hb
          · rename_i v hv
            cases hb
            exact ⟨v, pureRun_ok _ _ _ hv w, conc_lit _ _⟩
          · cases hb
        · split at hb
          · have hn : (fn.name == "internal/abi.NoEscape") = true := by assumption
            have hx : (Extern.findNext fn).isNone = true := by assumption
            cases hb
            obtain ⟨v, rfl, hv⟩ := concs_one hvs
            refine ⟨v, ?_, hv⟩
            have h1 : fn.name = "internal/abi.NoEscape" := eq_of_beq hn
            have h2 : Extern.findNext fn = none := by simpa using hx
            have h3 : (fn.name == "runtime.NumGoroutine") = false := by rw [h1]; rfl
            simp only [callFunc, Sem.run_bind, run_program, Result.andThen_ok, hfn, h3, Bool.false_eq_true, if_false, hbody, Option.isNone_none, if_true, h2, find_noEscape hn]
            rfl
          · cases hb
    · cases hb
  unfold target at h
  split at h
  · rename_i g caps
    cases h
    simp only [conc, Option.map_eq_some_iff] at hfv
    obtain ⟨vs, h1, rfl⟩ := hfv
    obtain ⟨cv, k1, k2⟩ := key hb (concs_append ha h1)
    refine ⟨{ target := .fn (.func g) vs.toArray, args := #[] ++ us.toArray }, cv, fun w' => rfl, ?_, k2⟩
    have : (#[] ++ us.toArray ++ vs.toArray : Array Value) = (us ++ vs).toArray := by simp
    simp only [invoke, this]
    exact k1
  · rename_i g first caps
    split at h
    · rename_i e1 e2
      cases h
      rw [conc_lit] at hfv
      cases hfv
      have e1' : first = #[] := by apply Array.ext'; simpa using e1
      have e2' : caps = #[] := by apply Array.ext'; simpa using e2
      subst e1'; subst e2'
      obtain ⟨cv, k1, k2⟩ := key hb ha
      refine ⟨{ target := .fn (.func g) #[], args := #[] ++ us.toArray }, cv, fun w' => rfl, ?_, k2⟩
      have : (#[] ++ us.toArray ++ #[] : Array Value) = us.toArray := by simp
      simp only [invoke, this]
      exact k1
    · cases h
  · split at h
    · split at h
      · cases h
        cases hb
      · cases h
    · cases h
  · cases h

def OneOK (cx : Cx) (B : Nat) (ih : Runs) : Prop := ∀ t s v s', ih t s = some (v, s') → TaskOK cx B t s s' v

theorem plain_of {ih : Runs} {o : Oper} (h : oneOp cx ih tt s o = some (v, s')) : plainOp o.op = true := by
  obtain ⟨dst, op, type, pos, after, guard⟩ := o
  cases op <;> first | rfl | (simp [oneOp, xop] at h)

/-- One operation of a region, carried out. -/
theorem oneOp_ok (hG : Good cx.P) {ih : Runs} (hih : OneOK cx B ih) (hR : Rel cx B ρ w s) (hf : Fresh ρ s.next s'.next) {ops : Array Oper} {i : Nat} {rest : List Nat} {o : Oper} (ho : ops[i]? = some o)
    (hw : Region.wanted o (Go.yielded ops tmps) = true) (hev : ∀ x ∈ o.op.operands, ∀ sv, eval tt x = some sv → conc ρ sv = some ((fr f tmps [] ds ro).eval x)) (h : oneOp cx ih tt s o = some (v, s')) :
    ∃ ρ' w' cv, Steps cx.P (lone (fr f tmps (.inRegion ops (i :: rest) :: k) ds ro) cs w) (lone (fr f (putA tmps o.dst cv) (.inRegion ops rest :: k) ds ro) cs w') ∧ conc ρ' v = some cv ∧ Rel cx B ρ' w' s' ∧ Ext s s' ρ ρ' w w' := by
  have hp := plain_of h
  have done : Done cx B (execOp (fr f tmps [] ds ro).eval o) ρ w s s' v → ∃ ρ' w' cv, Steps cx.P (lone (fr f tmps (.inRegion ops (i :: rest) :: k) ds ro) cs w) (lone (fr f (putA tmps o.dst cv) (.inRegion ops rest :: k) ds ro) cs w') ∧ conc ρ' v = some cv ∧ Rel cx B ρ' w' s' ∧ Ext s s' ρ ρ' w w' := by
    rintro ⟨ρ', w', cv, h1, h2, h3, h4⟩
    exact ⟨ρ', w', cv, .one (st_op_value ho hw hp h1), h2, h3, h4⟩
  by_cases hc : ∃ c, o.op = .call c
  · obtain ⟨c, hc⟩ := hc
    simp only [oneOp, hc] at h
    rw [hc] at hev
    split at h
    · cases h
    · rename_i args hargs
      have hus := mapM_concs (ρ := ρ) (g := (fr f tmps [] ds ro).eval) hargs (fun x hx sv hsv => hev x (by simp only [Op.operands, Call.operands]; exact Array.mem_append.2 (.inr (by simpa using hx))) sv hsv)
      have hmap : (c.args.map (fr f tmps [] ds ro).eval) = (c.args.toList.map (fr f tmps [] ds ro).eval).toArray := by apply Array.ext'; simp
      split at h
      · rename_i b hb
        refine done ?_
        have := xbuiltin_ok (consts := c.args.map fun | .const _ => true | _ => false) hR hf hus h
        obtain ⟨dst, op, type, pos, after, guard⟩ := o
        dsimp only at hc
        subst hc
        obtain ⟨callee, cargs, argTypes⟩ := c
        dsimp only at hb
        subst hb
        dsimp only at hmap
        show Done cx B (Go.builtin b argTypes type _ (cargs.map (fr f tmps [] ds ro).eval)) ρ w s s' v
        rw [hmap]
        exact this
      · rename_i fo hfo
        split at h
        · rename_i fv hfv
          split at h
          · rename_i t ht
            split at h
            · rename_i kv hkv
              cases h
              have hfc := hev fo (by simp only [Op.operands, Call.operands, hfo]; exact Array.mem_append.2 (.inl (by simp))) fv hfv
              obtain ⟨d, cv, h1, h2, h3⟩ := bare_ok (w := w) ht hfc hus hkv
              refine done (Done.same hR ?_ h3)
              obtain ⟨dst, op, type, pos, after, guard⟩ := o
              dsimp only at hc
              subst hc
              obtain ⟨callee, cargs, argTypes⟩ := c
              dsimp only at hfo
              subst hfo
              dsimp only at hmap h1
              show (do let d ← Deferred.ofValue ((fr f tmps [] ds ro).eval fo) (cargs.map (fr f tmps [] ds ro).eval); invoke d.target d.args : Sem Next).run cx.P w = _
              rw [hmap, Sem.run_bind, h1, Result.andThen_ok, h2]
            obtain ⟨hfun, htask⟩ := hih t s v s' h
            have hfc := hev fo (by simp only [Op.operands, Call.operands, hfo]; exact Array.mem_append.2 (.inl (by simp))) fv hfv
            obtain ⟨d, h1, h2⟩ := target_ok hG hR ht hfc hus hfun
            have hrun : ∀ n, (invoke d.target d.args).run cx.P w = .ok n w → (execOp (fr f tmps [] ds ro).eval o).run cx.P w = .ok n w := by
              intro n hn
              obtain ⟨dst, op, type, pos, after, guard⟩ := o
              dsimp only at hc
              subst hc
              obtain ⟨callee, cargs, argTypes⟩ := c
              dsimp only at hfo
              subst hfo
              dsimp only at hmap h1
              show (do let d ← Deferred.ofValue ((fr f tmps [] ds ro).eval fo) (cargs.map (fr f tmps [] ds ro).eval); invoke d.target d.args : Sem Next).run cx.P w = _
              rw [hmap, Sem.run_bind, h1, Result.andThen_ok, hn]
            have hfin : ∀ cv, (fr f tmps (.inRegion ops (i :: rest) :: k) ds ro).finish cv = fr f (putA tmps o.dst cv) (.inRegion ops rest :: k) ds ro := fun cv => fr_finish ho cv
            rcases h2 with ⟨g, as, h3, h4⟩ | ⟨lb, g, ts, as, body, h3, h4⟩
            · obtain ⟨ρ', w', cv, h5, h6, h7, h8⟩ := htask ρ w hR hf _ h4 (fr f tmps (.inRegion ops (i :: rest) :: k) ds ro) cs
              rw [hfin] at h5
              exact ⟨ρ', w', cv, .head (st_op_enter ho hw hp (hrun _ h3)) h5, h6, h7, h8⟩
            · obtain ⟨ρ', w', cv, h5, h6, h7, h8⟩ := htask ρ w hR hf _ h4 (fr f tmps (.inRegion ops (i :: rest) :: k) ds ro) cs
              rw [hfin] at h5
              exact ⟨ρ', w', cv, .head (st_op_round ho hw hp (hrun _ h3)) h5, h6, h7, h8⟩
          · cases h
        · cases h
      · cases h
  · refine done (xop_ok hR hf o hev ?_)
    obtain ⟨dst, op, type, pos, after, guard⟩ := o
    cases op <;> first | exact h | exact absurd ⟨_, rfl⟩ hc
end
end Go.Proofs.YtjppaamnicknnaaDoor.Ev

namespace Go.Proofs.YtjppaamnicknnaaDoor.Ev
open Go
variable [Env]

theorem setCells_next {s s' : St} {n off : Nat} {vs : List SV} (h : setCells s n off vs = some s') : s'.next = s.next := by
  unfold setCells at h
  split at h
  · split at h
    · cases h; rfl
    · cases h
  · split at h
    · cases h; rfl
    · cases h
  · cases h

theorem store_next {cx : Cx} {s s' : St} {t : TypeId} {a v : SV} (h : store cx s t a v = some s') : s'.next = s.next := by
  unfold store at h
  split at h
  · split at h
    · exact setCells_next h
    · cases h
  · cases h

theorem le_new (s : St) (o : SO) : s.next ≤ (s.new o).next := Nat.le_succ _
theorem le_kill_new (s : St) (b : Nat) (o : SO) : s.next ≤ ((s.kill b).new o).next := Nat.le_succ _

theorem append_next {cx : Cx} {s s' : St} {e : TypeId} {x y v : SV} (h : append cx s e x y = some (v, s')) : s.next ≤ s'.next := by
  unfold append at h
  split at h
  · cases h
  split at h
  · cases h
  split at h
  · cases h
  split at h
  · cases h
  split at h
  · split at h
    · cases h; exact Nat.le_refl _
    · split at h
      · cases h; exact le_new _ _
      · cases h
  · split at h
    · split at h
      · rename_i hs; cases h; exact Nat.le_of_eq (setCells_next hs).symm
      · cases h
    · split at h
      · cases h; exact le_new _ _
      · cases h
  · split at h
    · split at h
      · split at h
        · cases h; exact Nat.le_refl _
        · cases h; exact le_kill_new _ _ _
      · cases h
    · cases h
  · cases h


theorem xop_next {cx : Cx} {ev : Operand → Option SV} {s s' : St} {op : Op} {v : SV} (h : xop cx ev s op = some (v, s')) : s.next ≤ s'.next := by
  cases op <;> simp only [xop] at h <;> (repeat' split at h) <;> first
    | (cases h; done)
    | (cases h; exact Nat.le_refl _)
    | (cases h; exact Nat.le_succ _)
    | (simp only [Option.map_eq_some_iff, Prod.mk.injEq] at h; obtain ⟨_, _, _, rfl⟩ := h; exact Nat.le_refl _)
    | (simp only [Option.map_eq_some_iff, Prod.mk.injEq] at h; obtain ⟨_, hs, _, rfl⟩ := h; exact Nat.le_of_eq (store_next hs).symm)

theorem xbuiltin_next {cx : Cx} {s s' : St} {b : Builtin} {ats : Array TypeId} {ty : TypeId} {args : List SV} {v : SV} (h : xbuiltin cx s b ats ty args = some (v, s')) : s.next ≤ s'.next := by
  unfold xbuiltin at h
  (repeat' split at h) <;> first
    | (cases h; done)
    | exact append_next h
    | (cases h; exact Nat.le_refl _)
    | (cases h; exact Nat.le_of_eq rfl)
    | (rename_i hs; cases h; exact Nat.le_of_eq (setCells_next hs).symm)
    | (simp only [Option.map_eq_some_iff, Prod.mk.injEq] at h; obtain ⟨_, _, _, rfl⟩ := h; exact Nat.le_refl _)

def NextOK (ih : Runs) : Prop := ∀ t s v s', ih t s = some (v, s') → s.next ≤ s'.next

theorem oneOp_next {cx : Cx} {ih : Runs} (hn : NextOK ih) {tt : T SV} {s s' : St} {o : Oper} {v : SV} (h : oneOp cx ih tt s o = some (v, s')) : s.next ≤ s'.next := by
  unfold oneOp at h
  split at h
  · split at h
    · cases h
    · split at h
      · exact xbuiltin_next h
      · split at h
        · split at h
          · split at h
            · cases h; exact Nat.le_refl _
            · exact hn _ _ _ _ h
          · cases h
        · cases h
      · cases h
  · exact xop_next h

theorem runOps_next {cx : Cx} {ih : Runs} (hn : NextOK ih) {nt : Nat} {ops : List Oper} : ∀ {l : List Oper} {tt tt' : T SV} {s s' : St}, runOps cx ih nt ops l tt s = some (tt', s') → s.next ≤ s'.next
  | [], tt, tt', s, s', h => by simp only [runOps, Option.some.injEq, Prod.mk.injEq] at h; rw [h.2]; exact Nat.le_refl _
  | o :: l, tt, tt', s, s', h => by
    simp only [runOps] at h
    split at h
    · split at h
      · rename_i h1
        split at h
        · exact Nat.le_trans (oneOp_next hn h1) (runOps_next hn h)
        · cases h
      · cases h
    · split at h
      · exact runOps_next hn h
      · cases h
    · cases h

theorem runDrawn_next {cx : Cx} {ih : Runs} (hn : NextOK ih) {nt : Nat} {ops : List Oper} {fm : Bool} {s0 : St} : ∀ {l : List (Oper × Nat)} {fz : List Nat} {i : Nat} {ch : Bool} {ran : List (Nat × Nat × Nat)} {tt tt' : T SV} {s s' : St}, runDrawn cx ih nt ops fm s0 fz l i ch ran tt s = some (tt', s') → s.next ≤ s'.next
  | [], fz, i, ch, ran, tt, tt', s, s', h => by
    simp only [runDrawn] at h
    split at h
    · cases h; exact Nat.le_refl _
    · cases h
  | (o, anc) :: l, fz, i, ch, ran, tt, tt', s, s', h => by
    simp only [runDrawn] at h
    split at h
    · split at h
      · split at h
        · split at h
          · exact runDrawn_next hn h
          · cases h
        · cases h
      · split at h
        · split at h
          · exact runDrawn_next hn h
          · cases h
        · split at h
          · rename_i h1
            have h2 := oneOp_next hn h1
            split at h
            · cases h
            · have h3 := runDrawn_next hn h
              exact Nat.le_trans h2 h3
            · cases h
          · cases h
    · split at h
      · exact runDrawn_next hn h
      · cases h
    · cases h

theorem runRegion_split {cx : Cx} {ih : Runs} {nt : Nat} {ops : List Oper} {tt tt' : T SV} {s s' : St} (h : runRegion cx ih nt ops tt s = some (tt', s')) :
    ∃ fm s1, runDrawn cx ih nt ops fm { s with wr := [] } [] (ops.zip (ancs ops)) 0 false [] tt { s with wr := [] } = some (tt', s1) ∧ s' = { s1 with wr := s1.wr ++ s.wr } := by
  unfold runRegion at h
  split at h
  · rename_i h1
    cases h
    exact ⟨true, _, h1, rfl⟩
  · split at h
    · rename_i h1
      cases h
      exact ⟨false, _, h1, rfl⟩
    · cases h

theorem runRegion_next {cx : Cx} {ih : Runs} (hn : NextOK ih) {nt : Nat} {ops : List Oper} {tt tt' : T SV} {s s' : St} (h : runRegion cx ih nt ops tt s = some (tt', s')) : s.next ≤ s'.next := by
  obtain ⟨fm, s1, h1, rfl⟩ := runRegion_split h
  have := runDrawn_next hn h1
  exact this

section
variable {cx : Cx} {B : Nat} {f : FuncId} {k : List Item} {ds : List Deferred} {ro : Option Nat} {cs : List Frame} {nt : Nat}

/-- A region in the order of the text. -/
theorem runOps_ok (hG : Good cx.P) {ih : Runs} (hih : OneOK cx B ih) (hn : NextOK ih) {ops : Array Oper} : ∀ (l : List Oper) (i : Nat) {tt tt' : T SV} {s s' : St} {tmps : Array Value} {ρ : Nm} {w : World}, (∀ j, l[j]? = ops[i + j]?) →
    runOps cx ih nt ops.toList l tt s = some (tt', s') → Rel cx B ρ w s → TRel ρ nt tt tmps → Fresh ρ s.next s'.next →
    ∃ ρ' w' tmps', Steps cx.P (lone (fr f tmps (.inRegion ops (List.range' i l.length) :: k) ds ro) cs w) (lone (fr f tmps' k ds ro) cs w') ∧ TRel ρ' nt tt' tmps' ∧ Rel cx B ρ' w' s' ∧ Ext s s' ρ ρ' w w'
  | [], i, tt, tt', s, s', tmps, ρ, w, hl, h, hR, hT, hf => by
    simp only [runOps, Option.some.injEq, Prod.mk.injEq] at h
    obtain ⟨rfl, rfl⟩ := h
    exact ⟨ρ, w, tmps, .one st_region_end, hT, hR, Ext.refl _ _ _⟩
  | o :: l, i, tt, tt', s, s', tmps, ρ, w, hl, h, hR, hT, hf => by
    have ho : ops[i]? = some o := by have := hl 0; simpa using this.symm
    have hl' : ∀ j, l[j]? = ops[i + 1 + j]? := fun j => by
      have := hl (j + 1)
      rw [show i + 1 + j = i + (j + 1) by omega, ← this]
      rfl
    simp only [runOps] at h
    rw [List.length_cons, List.range'_succ]
    split at h
    · rename_i hw
      have hw' := wanted_ok hT hw
      split at h
      · rename_i v s1 h1
        split at h
        · rename_i tt1 hp
          have n1 := oneOp_next hn h1
          have n2 := runOps_next hn h
          obtain ⟨ρ1, w1, cv, e1, e2, e3, e4⟩ := oneOp_ok (k := k) (ds := ds) (ro := ro) (cs := cs) (f := f) (rest := List.range' (i + 1) l.length) hG hih hR (hf.sub (Nat.le_refl _) n2) ho hw' (fun x _ sv hx => eval_ok hT hx) h1
          obtain ⟨ρ2, w2, tm2, g1, g2, g3, g4⟩ := runOps_ok hG hih hn l (i + 1) hl' h e3 (putT_ok (hT.mono e4.sub) hp e2) (hf.step e4)
          exact ⟨ρ2, w2, tm2, e1.trans g1, g2, g3, e4.trans g4⟩
        · cases h
      · cases h
    · rename_i hw
      have hw' := wanted_ok hT hw
      split at h
      · rename_i tt1 hp
        obtain ⟨ρ2, w2, tm2, g1, g2, g3, g4⟩ := runOps_ok hG hih hn l (i + 1) hl' h hR (putT_ok hT hp (conc_lit _ _)) hf
        exact ⟨ρ2, w2, tm2, .head (st_op_skip ho hw') g1, g2, g3, g4⟩
      · cases h
    · cases h
end
end Go.Proofs.YtjppaamnicknnaaDoor.Ev

namespace Go.Proofs.YtjppaamnicknnaaDoor.Ev
open Go
variable [Env]

/-- What the reckoner itself keeps: names not written, names that are gone. -/
structure Kp (s s' : St) : Prop where
  hid : s'.hid = s.hid
  minw : s'.minw ≤ s.minw
  le : s.next ≤ s'.next
  keep : ∀ n, n < s.next → n < s'.minw → s'.heap.get n = s.heap.get n
  dead : ∀ n, n < s.next → s.heap.get n = none → s'.heap.get n = none
  top : (∀ n, s.next ≤ n → s.heap.get n = none) → ∀ n, s'.next ≤ n → s'.heap.get n = none
  wr : ∀ n, n ∈ s.wr → n ∈ s'.wr
  keepw : ∀ n, n < s.next → n ∉ s'.wr → s'.heap.get n = s.heap.get n

theorem Kp.refl (s : St) : Kp s s := ⟨rfl, Nat.le_refl _, Nat.le_refl _, fun _ _ _ => rfl, fun _ _ h => h, fun h => h, fun _ h => h, fun _ _ _ => rfl⟩
theorem Kp.trans {a b c : St} (h : Kp a b) (k : Kp b c) : Kp a c :=
  ⟨k.hid.trans h.hid, Nat.le_trans k.minw h.minw, Nat.le_trans h.le k.le, fun n h1 h2 => (k.keep n (Nat.lt_of_lt_of_le h1 h.le) h2).trans (h.keep n h1 (Nat.lt_of_lt_of_le h2 k.minw)),
    fun n h1 h2 => k.dead n (Nat.lt_of_lt_of_le h1 h.le) (h.dead n h1 h2), fun t => k.top (h.top t), fun n hn => k.wr n (h.wr n hn),
    fun n h1 h2 => (k.keepw n (Nat.lt_of_lt_of_le h1 h.le) h2).trans (h.keepw n h1 fun hh => h2 (k.wr n hh))⟩
theorem Kp.new (s : St) (o : SO) : Kp s (s.new o) := by
  refine ⟨rfl, Nat.le_refl _, Nat.le_succ _, fun n h1 _ => ?_, fun n h1 h2 => ?_, fun h n h1 => ?_, fun _ h => h, fun n h1 _ => by simp only [St.new, T.get_put]; rw [if_neg (by omega)]⟩
  · simp only [St.new, T.get_put]; rw [if_neg (by omega)]
  · simp only [St.new, T.get_put]; rw [if_neg (by omega)]; exact h2
  · have h1 : s.next + 1 ≤ n := h1
    simp only [St.new, T.get_put]; rw [if_neg (by omega)]; exact h n (by omega)
theorem Kp.set {s : St} {m : Nat} {o0 : SO} (h0 : s.see m = some o0) (o : SO) : Kp s (s.set m o) := by
  have hm := set_minw s m o
  refine ⟨rfl, hm.1, Nat.le_refl _, fun n h1 h2 => ?_, fun n h1 h2 => ?_, fun h n h1 => ?_, fun _ h => List.mem_cons_of_mem _ h, fun n _ h2 => ?_⟩
  · have : n < m := Nat.lt_of_lt_of_le h2 hm.2
    simp only [St.set, T.get_put]; rw [if_neg (by omega)]
  · simp only [St.set, T.get_put]
    split
    · rename_i e; rw [e, raw_of_see h0] at h2; cases h2
    · exact h2
  · have h1 : s.next ≤ n := h1
    simp only [St.set, T.get_put]
    split
    · rename_i e
      have := h n h1
      rw [e, raw_of_see h0] at this; cases this
    · exact h n h1
  · have hne : n ≠ m := fun e => h2 (by rw [e]; exact List.mem_cons_self ..)
    simp only [St.set, T.get_put]; rw [if_neg hne]
theorem Kp.kill (s : St) (m : Nat) : Kp s (s.kill m) := by
  have hm := kill_minw s m
  refine ⟨rfl, hm.1, Nat.le_refl _, fun n h1 h2 => ?_, fun n h1 h2 => ?_, fun h n h1 => ?_, fun _ h => List.mem_cons_of_mem _ h, fun n _ h2 => ?_⟩
  · have : n < m := Nat.lt_of_lt_of_le h2 hm.2
    simp only [St.kill, T.get_put]; rw [if_neg (by omega)]
  · simp only [St.kill, T.get_put]
    split
    · rfl
    · exact h2
  · have h1 : s.next ≤ n := h1
    simp only [St.kill, T.get_put]
    split
    · rfl
    · exact h n h1
  · have hne : n ≠ m := fun e => h2 (by rw [e]; exact List.mem_cons_self ..)
    simp only [St.kill, T.get_put]; rw [if_neg hne]
theorem Kp.killnew (s : St) (m : Nat) (o : SO) : Kp s ((s.kill m).new o) := (Kp.kill s m).trans (Kp.new _ o)

theorem setCells_kp {s s' : St} {n off : Nat} {vs : List SV} (h : setCells s n off vs = some s') : Kp s s' := by
  unfold setCells at h
  split at h
  · rename_i h0
    split at h
    · cases h; exact Kp.set h0 _
    · cases h
  · rename_i h0
    split at h
    · cases h; exact Kp.set h0 _
    · cases h
  · cases h

theorem store_kp {cx : Cx} {s s' : St} {t : TypeId} {a v : SV} (h : store cx s t a v = some s') : Kp s s' := by
  unfold store at h
  split at h
  · split at h
    · exact setCells_kp h
    · cases h
  · cases h

theorem append_kp {cx : Cx} {s s' : St} {e : TypeId} {x y v : SV} (h : append cx s e x y = some (v, s')) : Kp s s' := by
  unfold append at h
  split at h
  · cases h
  split at h
  · cases h
  split at h
  · cases h
  split at h
  · cases h
  split at h
  · split at h
    · cases h; exact Kp.refl _
    · split at h
      · cases h; exact Kp.new _ _
      · cases h
  · split at h
    · split at h
      · rename_i hs; cases h; exact setCells_kp hs
      · cases h
    · split at h
      · cases h; exact Kp.new _ _
      · cases h
  · split at h
    · split at h
      · split at h
        · cases h; exact Kp.refl _
        · cases h; exact Kp.killnew _ _ _
      · cases h
    · cases h
  · cases h

theorem xop_kp {cx : Cx} {ev : Operand → Option SV} {s s' : St} {op : Op} {v : SV} (h : xop cx ev s op = some (v, s')) : Kp s s' := by
  cases op <;> simp only [xop] at h <;> (repeat' split at h) <;> first
    | (cases h; done)
    | (cases h; exact Kp.refl _)
    | (cases h; exact Kp.new _ _)
    | (cases h; exact Kp.set ‹s.see _ = some _› _)
    | (simp only [Option.map_eq_some_iff, Prod.mk.injEq] at h; obtain ⟨_, _, _, rfl⟩ := h; exact Kp.refl _)
    | (simp only [Option.map_eq_some_iff, Prod.mk.injEq] at h; obtain ⟨_, hs, _, rfl⟩ := h; exact store_kp hs)

theorem xbuiltin_kp {cx : Cx} {s s' : St} {b : Builtin} {ats : Array TypeId} {ty : TypeId} {args : List SV} {v : SV} (h : xbuiltin cx s b ats ty args = some (v, s')) : Kp s s' := by
  unfold xbuiltin at h
  (repeat' split at h) <;> first
    | (cases h; done)
    | exact append_kp h
    | (cases h; exact Kp.refl _)
    | (cases h; exact Kp.kill _ _)
    | (rename_i hs; cases h; exact setCells_kp hs)
    | (simp only [Option.map_eq_some_iff, Prod.mk.injEq] at h; obtain ⟨_, _, _, rfl⟩ := h; exact Kp.refl _)

def KpOK (ih : Runs) : Prop := ∀ t s v s', ih t s = some (v, s') → Kp s s'

theorem oneOp_kp {cx : Cx} {ih : Runs} (hn : KpOK ih) {tt : T SV} {s s' : St} {o : Oper} {v : SV} (h : oneOp cx ih tt s o = some (v, s')) : Kp s s' := by
  unfold oneOp at h
  split at h
  · split at h
    · cases h
    · split at h
      · exact xbuiltin_kp h
      · split at h
        · split at h
          · split at h
            · cases h; exact Kp.refl _
            · exact hn _ _ _ _ h
          · cases h
        · cases h
      · cases h
  · exact xop_kp h

theorem runOps_kp {cx : Cx} {ih : Runs} (hn : KpOK ih) {nt : Nat} {ops : List Oper} : ∀ {l : List Oper} {tt tt' : T SV} {s s' : St}, runOps cx ih nt ops l tt s = some (tt', s') → Kp s s'
  | [], tt, tt', s, s', h => by simp only [runOps, Option.some.injEq, Prod.mk.injEq] at h; rw [h.2]; exact Kp.refl _
  | o :: l, tt, tt', s, s', h => by
    simp only [runOps] at h
    split at h
    · split at h
      · rename_i h1
        split at h
        · exact (oneOp_kp hn h1).trans (runOps_kp hn h)
        · cases h
      · cases h
    · split at h
      · exact runOps_kp hn h
      · cases h
    · cases h

theorem Kp.within {s s' : St} {hd : List (Nat × Nat)} (h : Kp { s with hid := hd ++ s.hid, minw := s.next } s') : Kp s { s' with hid := s.hid, minw := Nat.min s.minw s'.minw } :=
  ⟨rfl, Nat.min_le_left _ _, h.le, fun n h1 h2 => h.keep n h1 (Nat.lt_of_lt_of_le h2 (Nat.min_le_right _ _)), h.dead, h.top, h.wr, h.keepw⟩

theorem runDrawn_kp {cx : Cx} {ih : Runs} (hn : KpOK ih) {nt : Nat} {ops : List Oper} {fm : Bool} {s0 : St} : ∀ {l : List (Oper × Nat)} {fz : List Nat} {i : Nat} {ch : Bool} {ran : List (Nat × Nat × Nat)} {tt tt' : T SV} {s s' : St}, runDrawn cx ih nt ops fm s0 fz l i ch ran tt s = some (tt', s') → Kp s s'
  | [], fz, i, ch, ran, tt, tt', s, s', h => by
    simp only [runDrawn] at h
    split at h
    · cases h; exact Kp.refl _
    · cases h
  | (o, anc) :: l, fz, i, ch, ran, tt, tt', s, s', h => by
    simp only [runDrawn] at h
    split at h
    · split at h
      · split at h
        · split at h
          · exact runDrawn_kp hn h
          · cases h
        · cases h
      · split at h
        · split at h
          · exact runDrawn_kp hn h
          · cases h
        · split at h
          · rename_i h1
            have h2 := (oneOp_kp hn h1).within
            split at h
            · cases h
            · have h3 := runDrawn_kp hn h
              exact h2.trans h3
            · cases h
          · cases h
    · split at h
      · exact runDrawn_kp hn h
      · cases h
    · cases h

theorem runRegion_kp {cx : Cx} {ih : Runs} (hn : KpOK ih) {nt : Nat} {ops : List Oper} {tt tt' : T SV} {s s' : St} (h : runRegion cx ih nt ops tt s = some (tt', s')) : Kp s s' := by
  obtain ⟨fm, s1, h1, rfl⟩ := runRegion_split h
  have k := runDrawn_kp hn h1
  exact ⟨k.hid, k.minw, k.le, k.keep, k.dead, k.top, fun n hn => List.mem_append_right _ hn, fun n h2 h3 => k.keepw n h2 fun hh => h3 (List.mem_append_left _ hh)⟩
end Go.Proofs.YtjppaamnicknnaaDoor.Ev

namespace Go.Proofs.YtjppaamnicknnaaDoor.Ev
open Go
variable [Env]

/-- The step of 'ancs'. -/
def ancStep (acc : List Nat) (o : Oper) : Nat := o.after.toList.foldl (fun m e => match Region.binds .any e with | true => Nat.lor m (Nat.lor (Nat.pow 2 e.on) ((acc[e.on]?).getD 0)) | false => m) 0

theorem ancs_go_cons (o : Oper) (rest : List Oper) (acc : List Nat) : ancs.go (o :: rest) acc = ancs.go rest (acc ++ [ancStep acc o]) := rfl

theorem ancs_go_length : ∀ (l : List Oper) (acc : List Nat), (ancs.go l acc).length = acc.length + l.length
  | [], acc => rfl
  | o :: l, acc => by rw [ancs_go_cons, ancs_go_length l]; simp; omega

theorem ancs_go_pre : ∀ (l : List Oper) (acc : List Nat) (i : Nat), i < acc.length → (ancs.go l acc)[i]? = acc[i]?
  | [], acc, i, _ => rfl
  | o :: l, acc, i, h => by
    rw [ancs_go_cons, ancs_go_pre l _ i (by simp; omega), List.getElem?_append_left h]

theorem ancs_go_at : ∀ (l : List Oper) (acc : List Nat) (i : Nat) (o : Oper), l[i]? = some o → ∃ acc', (∀ j, j < acc.length + i → acc'[j]? = (ancs.go l acc)[j]?) ∧ acc'.length = acc.length + i ∧ (ancs.go l acc)[acc.length + i]? = some (ancStep acc' o)
  | [], acc, i, o, h => by simp at h
  | x :: l, acc, 0, o, h => by
    simp at h
    subst h
    refine ⟨acc, fun j hj => ?_, rfl, ?_⟩
    · rw [ancs_go_cons, ancs_go_pre l _ j (by simp; omega), List.getElem?_append_left (by omega)]
    · rw [ancs_go_cons, ancs_go_pre l _ _ (by simp)]
      simp
  | x :: l, acc, i + 1, o, h => by
    obtain ⟨acc', h1, h2, h3⟩ := ancs_go_at l (acc ++ [ancStep acc x]) i o (by simpa using h)
    refine ⟨acc', fun j hj => ?_, by simp at h2; omega, ?_⟩
    · rw [ancs_go_cons]
      exact h1 j (by simp; omega)
    · rw [ancs_go_cons]
      rw [← h3]
      congr 1
      simp
      omega

theorem testBit_lor (m n j : Nat) : Nat.testBit (Nat.lor m n) j = (Nat.testBit m j || Nat.testBit n j) := Nat.testBit_or m n j

theorem anc_fold (a : Nat → Nat) (j : Nat) : ∀ (es : List Edge) (m0 : Nat), Nat.testBit (es.foldl (fun m e => match Region.binds .any e with | true => Nat.lor m (Nat.lor (Nat.pow 2 e.on) (a e.on)) | false => m) m0) j = true →
    Nat.testBit m0 j = true ∨ ∃ e ∈ es, Region.binds .any e = true ∧ (j = e.on ∨ Nat.testBit (a e.on) j = true)
  | [], m0, h => .inl h
  | e :: es, m0, h => by
    simp only [List.foldl_cons] at h
    rcases anc_fold a j es _ h with h1 | ⟨e', he, hb, hj⟩
    · split at h1
      · rename_i hb
        rw [testBit_lor, testBit_lor, Bool.or_eq_true, Bool.or_eq_true] at h1
        rcases h1 with h1 | h1 | h1
        · exact .inl h1
        · refine .inr ⟨e, List.mem_cons_self .., hb, .inl ?_⟩
          have : Nat.testBit (2 ^ e.on) j = true := h1
          rw [Nat.testBit_two_pow] at this
          exact (of_decide_eq_true this).symm
        · exact .inr ⟨e, List.mem_cons_self .., hb, .inr h1⟩
      · exact .inl h1
    · exact .inr ⟨e', List.mem_cons_of_mem _ he, hb, hj⟩

def anc (L : List Oper) (i : Nat) : Nat := ((ancs L)[i]?).getD 0

theorem ancs_length (L : List Oper) : (ancs L).length = L.length := by
  unfold ancs
  rw [ancs_go_length]
  simp

theorem anc_spec {L : List Oper} {i : Nat} {o : Oper} (ho : L[i]? = some o) (hb : ∀ e ∈ o.after.toList, Region.binds .any e = true → e.on < i) {j : Nat} (h : Nat.testBit (anc L i) j = true) :
    ∃ e ∈ o.after.toList, Region.binds .any e = true ∧ (j = e.on ∨ Nat.testBit (anc L e.on) j = true) := by
  obtain ⟨acc', h1, h2, h3⟩ := ancs_go_at L [] i o ho
  simp only [List.length_nil, Nat.zero_add] at h1 h2 h3
  have h4 : anc L i = ancStep acc' o := by
    unfold anc ancs
    rw [h3]
    rfl
  rw [h4] at h
  unfold ancStep at h
  rcases anc_fold (fun k => (acc'[k]?).getD 0) j o.after.toList 0 h with h5 | ⟨e, he, hbe, hj⟩
  · simp at h5
  · refine ⟨e, he, hbe, hj.imp_right fun h6 => ?_⟩
    unfold anc ancs
    rw [← h1 e.on (hb e he hbe)]
    exact h6

/-- Operations that look at no memory. -/
theorem quiet_xop {cx : Cx} {ev : Operand → Option SV} {op : Op} (hq : quietOp op = true) {s s' : St} {v : SV} (h : xop cx ev s op = some (v, s')) : s' = s ∧ ∀ s2, xop cx ev s2 op = some (v, s2) := by
  cases op <;> first | (simp [quietOp] at hq; done) | skip
  all_goals simp only [xop] at h ⊢
  all_goals (repeat' split at h)
  all_goals first
    | (cases h; done)
    | (cases h; exact ⟨rfl, fun s2 => by simp only [*]⟩)
    | (simp only [Option.map_eq_some_iff, Prod.mk.injEq] at h; obtain ⟨_, hv, rfl, rfl⟩ := h; exact ⟨rfl, fun s2 => by simp only [*, Option.map_some]⟩)

theorem quiet_oneOp {cx : Cx} {ih : Runs} {tt : T SV} {o : Oper} (hq : quietOp o.op = true) {s s' : St} {v : SV} (h : oneOp cx ih tt s o = some (v, s')) : s' = s ∧ ∀ s2, oneOp cx ih tt s2 o = some (v, s2) := by
  obtain ⟨dst, op, type, pos, after, guard⟩ := o
  have : ∀ s, oneOp cx ih tt s ⟨dst, op, type, pos, after, guard⟩ = xop cx (eval tt) s op := by
    intro s
    cases op <;> first | rfl | (simp [quietOp] at hq)
  rw [this] at h
  obtain ⟨h1, h2⟩ := quiet_xop hq h
  exact ⟨h1, fun s2 => by rw [this]; exact h2 s2⟩
end Go.Proofs.YtjppaamnicknnaaDoor.Ev

namespace Go.Proofs.YtjppaamnicknnaaDoor.Ev
open Go
variable [Env]

/-- One step of the reckoner in a drawn region. -/
def StepQ (cx : Cx) (ih : Runs) (nt : Nat) (L : List Oper) (o : Oper) (s s1 : St) (t t1 : T SV) (c c1 : Bool) (r r1 : List (Nat × Nat × Nat)) (v : SV) : Prop :=
  wanted L o t = some true ∧ quietOp o.op = true ∧ oneOp cx ih t s o = some (v, s) ∧ putT nt t o.dst v = some t1 ∧ s1 = s ∧ c1 = c ∧ r1 = r
def StepS (nt : Nat) (L : List Oper) (o : Oper) (s s1 : St) (t t1 : T SV) (c c1 : Bool) (r r1 : List (Nat × Nat × Nat)) (v : SV) : Prop :=
  wanted L o t = some false ∧ v = .lit undef ∧ putT nt t o.dst v = some t1 ∧ s1 = s ∧ c1 = c ∧ r1 = r
def StepL (cx : Cx) (ih : Runs) (nt : Nat) (L : List Oper) (i : Nat) (o : Oper) (a : Nat) (s s1 : St) (t t1 : T SV) (c c1 : Bool) (r r1 : List (Nat × Nat × Nat)) (v : SV) : Prop :=
  wanted L o t = some true ∧ ∃ s', oneOp cx ih t { s with hid := hides a r ++ s.hid, minw := s.next } o = some (v, s') ∧ (allAhead a r = true ∨ c1 = false) ∧ c1 = (c || Nat.blt s'.minw s.next) ∧ putT nt t o.dst v = some t1 ∧
    r1 = (i, s.next, s'.next) :: r ∧ s1 = { s' with hid := s.hid, minw := Nat.min s.minw s'.minw }

def StepF (cx : Cx) (nt : Nat) (L : List Oper) (s0 : St) (fin : List Nat) (o : Oper) (s s1 : St) (t t1 : T SV) (c c1 : Bool) (r r1 : List (Nat × Nat × Nat)) (v : SV) : Prop :=
  wanted L o t = some true ∧ (∃ fr, frozenLoad cx s0 (eval t) o.op = some (v, fr) ∧ ∀ n ∈ fr, n ∉ fin) ∧ putT nt t o.dst v = some t1 ∧ s1 = s ∧ c1 = c ∧ r1 = r

/-- The run of the reckoner over a drawn region, step by step. -/
structure Tr where
  st : Nat → St
  ts : Nat → T SV
  ch : Nat → Bool
  rn : Nat → List (Nat × Nat × Nat)
  vl : Nat → SV

def Tr.step (T : Tr) (cx : Cx) (ih : Runs) (nt : Nat) (L : List Oper) (s0 : St) (fin : List Nat) (i : Nat) (o : Oper) (a : Nat) : Prop :=
  StepQ cx ih nt L o (T.st i) (T.st (i + 1)) (T.ts i) (T.ts (i + 1)) (T.ch i) (T.ch (i + 1)) (T.rn i) (T.rn (i + 1)) (T.vl i) ∨
  StepS nt L o (T.st i) (T.st (i + 1)) (T.ts i) (T.ts (i + 1)) (T.ch i) (T.ch (i + 1)) (T.rn i) (T.rn (i + 1)) (T.vl i) ∨
  StepL cx ih nt L i o a (T.st i) (T.st (i + 1)) (T.ts i) (T.ts (i + 1)) (T.ch i) (T.ch (i + 1)) (T.rn i) (T.rn (i + 1)) (T.vl i) ∨
  StepF cx nt L s0 fin o (T.st i) (T.st (i + 1)) (T.ts i) (T.ts (i + 1)) (T.ch i) (T.ch (i + 1)) (T.rn i) (T.rn (i + 1)) (T.vl i)

theorem apart_ok {fz wr : List Nat} (h : apartFrom fz wr = true) : ∀ n ∈ fz, n ∉ wr := by
  intro n hn hw
  have h1 := List.all_eq_true.1 h n hn
  have h2 : wr.any (Nat.beq n) = true := List.any_eq_true.2 ⟨n, hw, Nat.beq_refl n⟩
  rw [h2] at h1
  cases h1

def Tr.cons (T : Tr) (i : Nat) (s : St) (t : Ev.T SV) (c : Bool) (r : List (Nat × Nat × Nat)) (v : SV) : Tr where
  st := fun m => if m = i then s else T.st m
  ts := fun m => if m = i then t else T.ts m
  ch := fun m => if m = i then c else T.ch m
  rn := fun m => if m = i then r else T.rn m
  vl := fun m => if m = i then v else T.vl m

theorem trace {cx : Cx} {ih : Runs} {nt : Nat} {L : List Oper} {fm : Bool} {s0 : St} : ∀ {l : List (Oper × Nat)} {fz : List Nat} {i : Nat} {c : Bool} {r : List (Nat × Nat × Nat)} {t t' : T SV} {s s' : St}, runDrawn cx ih nt L fm s0 fz l i c r t s = some (t', s') →
    (∀ n ∈ fz, n ∉ s'.wr) ∧ ∃ T : Tr, T.st i = s ∧ T.ts i = t ∧ T.ch i = c ∧ T.rn i = r ∧ T.st (i + l.length) = s' ∧ T.ts (i + l.length) = t' ∧ ∀ j, j < l.length → ∀ o a, l[j]? = some (o, a) → T.step cx ih nt L s0 s'.wr (i + j) o a
  | [], fz, i, c, r, t, t', s, s', h => by
    simp only [runDrawn] at h
    split at h
    · rename_i ha
      cases h
      exact ⟨apart_ok ha, ⟨fun _ => s, fun _ => t, fun _ => c, fun _ => r, fun _ => .lit undef⟩, rfl, rfl, rfl, rfl, rfl, rfl, fun j hj => by simp at hj⟩
    · cases h
  | (o, anc) :: l, fz, i, c, r, t, t', s, s', h => by
    have key : ∀ {fz1 : List Nat} {s1 : St} {t1 : T SV} {c1 : Bool} {r1 : List (Nat × Nat × Nat)} {v : SV}, runDrawn cx ih nt L fm s0 fz1 l (Nat.add i 1) c1 r1 t1 s1 = some (t', s') → (∀ n ∈ fz, n ∈ fz1) →
        ((∀ n ∈ fz1, n ∉ s'.wr) → StepQ cx ih nt L o s s1 t t1 c c1 r r1 v ∨ StepS nt L o s s1 t t1 c c1 r r1 v ∨ StepL cx ih nt L i o anc s s1 t t1 c c1 r r1 v ∨ StepF cx nt L s0 s'.wr o s s1 t t1 c c1 r r1 v) →
        (∀ n ∈ fz, n ∉ s'.wr) ∧ ∃ T : Tr, T.st i = s ∧ T.ts i = t ∧ T.ch i = c ∧ T.rn i = r ∧ T.st (i + (l.length + 1)) = s' ∧ T.ts (i + (l.length + 1)) = t' ∧ ∀ j, j < l.length + 1 → ∀ o' a, ((o, anc) :: l)[j]? = some (o', a) → T.step cx ih nt L s0 s'.wr (i + j) o' a := by
      intro fz1 s1 t1 c1 r1 v h1 hfz hs
      obtain ⟨hf1, T, e1, e2, e3, e4, e5, e6, e7⟩ := trace h1
      have hs := hs hf1
      have e1 : T.st (i + 1) = s1 := e1
      have e2 : T.ts (i + 1) = t1 := e2
      have e3 : T.ch (i + 1) = c1 := e3
      have e4 : T.rn (i + 1) = r1 := e4
      have e5 : T.st (i + 1 + l.length) = s' := e5
      have e6 : T.ts (i + 1 + l.length) = t' := e6
      refine ⟨fun n hn => hf1 n (hfz n hn), T.cons i s t c r v, by simp [Tr.cons], by simp [Tr.cons], by simp [Tr.cons], by simp [Tr.cons], ?_, ?_, ?_⟩
      · simp only [Tr.cons]
        rw [if_neg (by omega), ← e5]
        congr 1; omega
      · simp only [Tr.cons]
        rw [if_neg (by omega), ← e6]
        congr 1; omega
      · intro j hj o' a ho
        cases j with
        | zero =>
          simp at ho
          obtain ⟨rfl, rfl⟩ := ho
          simp only [Tr.step, Tr.cons, Nat.add_zero, if_true]
          rw [if_neg (by omega), if_neg (by omega), if_neg (by omega), if_neg (by omega), e1, e2, e3, e4]
          exact hs
        | succ j =>
          have := e7 j (by omega) o' a (by simpa using ho)
          have hj' : Nat.add i 1 + j = i + (j + 1) := by show i + 1 + j = _; omega
          rw [hj'] at this
          simp only [Tr.step, Tr.cons] at this ⊢
          rw [if_neg (by omega), if_neg (by omega), if_neg (by omega), if_neg (by omega), if_neg (by omega), if_neg (by omega), if_neg (by omega), if_neg (by omega), if_neg (by omega)]
          exact this
    simp only [runDrawn] at h
    rw [List.length_cons]
    split at h
    · rename_i hw
      split at h
      · rename_i hq
        split at h
        · rename_i v s1 h1
          split at h
          · rename_i t1 hp
            obtain ⟨rfl, _⟩ := quiet_oneOp hq h1
            exact key h (fun _ hn => hn) fun _ => (.inl ⟨hw, hq, h1, hp, rfl, rfl, rfl⟩)
          · cases h
        · cases h
      · split at h
        · rename_i v fr hfr
          split at h
          · rename_i t1 hp
            refine key h (fun n hn => List.mem_append_right _ hn) fun hn => .inr (.inr (.inr ⟨hw, ⟨fr, ?_, fun n hm => hn n (List.mem_append_left _ hm)⟩, hp, rfl, rfl, rfl⟩))
            unfold frozen? at hfr
            split at hfr
            · exact hfr
            · cases hfr
          · cases h
        · split at h
          · rename_i v s1 h1
            split at h
            · cases h
            · rename_i t1 hp hne
              refine key h (fun _ hn => hn) fun _ => (.inr (.inr (.inl ⟨hw, s1, h1, ?_, rfl, hp, rfl, rfl⟩)))
              cases ha : allAhead anc r
              · right
                cases hb : (c || Nat.blt s1.minw s.next)
                · rfl
                · exact (hne ha hb).elim
              · exact .inl rfl
            · cases h
          · cases h
    · rename_i hw
      split at h
      · rename_i t1 hp
        exact key h (fun _ hn => hn) fun _ => (.inr (.inl ⟨hw, rfl, hp, rfl, rfl, rfl⟩))
      · cases h
    · cases h
end Go.Proofs.YtjppaamnicknnaaDoor.Ev

namespace Go.Proofs.YtjppaamnicknnaaDoor.Ev
open Go
variable [Env]

theorem least_exists {p : Nat → Prop} (h : ∃ n, p n) : ∃ m, p m ∧ ∀ k, k < m → ¬ p k := by
  obtain ⟨n, hn⟩ := h
  induction n using Nat.strongRecOn with
  | ind n ih =>
    by_cases h : ∃ k, k < n ∧ p k
    · obtain ⟨k, hk, hp⟩ := h
      exact ih k hk hp
    · exact ⟨n, hn, fun k hk hp => h ⟨k, hk, hp⟩⟩

theorem hidden_append : ∀ (a b : List (Nat × Nat)) (n : Nat), hidden (a ++ b) n = (hidden a n || hidden b n)
  | [], b, n => rfl
  | (x, y) :: a, b, n => by
    simp only [List.cons_append, hidden]
    split
    · rfl
    · exact hidden_append a b n

theorem hidden_hides {a : Nat} : ∀ {r : List (Nat × Nat × Nat)} {n : Nat}, hidden (hides a r) n = true → ∃ j lo hi, (j, lo, hi) ∈ r ∧ Nat.testBit a j = false ∧ lo ≤ n ∧ n < hi
  | [], n, h => by simp [hides, hidden] at h
  | (j, lo, hi) :: r, n, h => by
    simp only [hides] at h
    split at h
    · obtain ⟨j', lo', hi', h1, h2⟩ := hidden_hides h
      exact ⟨j', lo', hi', List.mem_cons_of_mem _ h1, h2⟩
    · rename_i hb
      simp only [hidden] at h
      split at h
      · rename_i hr
        simp only [Bool.and_eq_true] at hr
        exact ⟨j, lo, hi, List.mem_cons_self .., hb, ble_le hr.1, blt_lt hr.2⟩
      · obtain ⟨j', lo', hi', h1, h2⟩ := hidden_hides h
        exact ⟨j', lo', hi', List.mem_cons_of_mem _ h1, h2⟩

theorem hides_hidden {a : Nat} : ∀ {r : List (Nat × Nat × Nat)} {n j lo hi : Nat}, (j, lo, hi) ∈ r → Nat.testBit a j = false → lo ≤ n → n < hi → hidden (hides a r) n = true
  | [], n, j, lo, hi, h, _, _, _ => by simp at h
  | (j0, lo0, hi0) :: r, n, j, lo, hi, h, hb, h1, h2 => by
    simp only [hides]
    rcases List.mem_cons.1 h with h | h
    · cases h
      rw [hb]
      simp only [hidden]
      have e1 : Nat.ble lo0 n = true := Nat.ble_eq_true_of_le h1
      have e2 : Nat.blt n hi0 = true := Nat.ble_eq_true_of_le h2
      rw [e1, e2]
      rfl
    · have ih := hides_hidden h hb h1 h2
      split
      · exact ih
      · simp only [hidden]
        split
        · rfl
        · exact ih

theorem allAhead_mem {a : Nat} : ∀ {r : List (Nat × Nat × Nat)}, allAhead a r = true → ∀ x ∈ r, Nat.testBit a x.1 = true
  | [], _, x, hx => by simp at hx
  | (j, lo, hi) :: r, h, x, hx => by
    simp only [allAhead] at h
    split at h
    · rename_i hb
      rcases List.mem_cons.1 hx with rfl | hx
      · exact hb
      · exact allAhead_mem h x hx
    · cases h

section
variable {cx : Cx} {ih : Runs} {nt : Nat} {L : List Oper} {T : Tr}

/-- The i-th operation looks at memory. -/
def Loud (cx : Cx) (ih : Runs) (nt : Nat) (L : List Oper) (T : Tr) (i : Nat) : Prop := ∃ o, L[i]? = some o ∧
  StepL cx ih nt L i o (anc L i) (T.st i) (T.st (i + 1)) (T.ts i) (T.ts (i + 1)) (T.ch i) (T.ch (i + 1)) (T.rn i) (T.rn (i + 1)) (T.vl i)

structure Whole (cx : Cx) (ih : Runs) (nt : Nat) (L : List Oper) (T : Tr) : Prop where
  step : ∀ i o, L[i]? = some o → T.step cx ih nt L (T.st 0) (T.st L.length).wr i o (anc L i)
  kp : KpOK ih
  rn0 : T.rn 0 = []

theorem Whole.cases (W : Whole cx ih nt L T) {i : Nat} (hi : i < L.length) : Loud cx ih nt L T i ∨ (¬ Loud cx ih nt L T i ∧ T.st (i + 1) = T.st i ∧ T.ch (i + 1) = T.ch i ∧ T.rn (i + 1) = T.rn i) := by
  have ho : L[i]? = some L[i] := List.getElem?_eq_getElem hi
  have not : T.rn (i + 1) = T.rn i → ¬ Loud cx ih nt L T i := by
    rintro e ⟨o, _, _, s', _, _, _, _, h, _⟩
    rw [e] at h
    have := congrArg List.length h
    simp at this
  rcases W.step i _ ho with ⟨_, _, _, _, h1, h2, h3⟩ | ⟨_, _, _, h1, h2, h3⟩ | h | ⟨_, _, _, h1, h2, h3⟩
  · exact .inr ⟨not h3, h1, h2, h3⟩
  · exact .inr ⟨not h3, h1, h2, h3⟩
  · exact .inl ⟨_, ho, h⟩
  · exact .inr ⟨not h3, h1, h2, h3⟩

theorem Whole.kp1 (W : Whole cx ih nt L T) {i : Nat} (hi : i < L.length) : Kp (T.st i) (T.st (i + 1)) := by
  rcases W.cases hi with ⟨o, ho, _, s', h1, _, _, _, _, h2⟩ | ⟨_, h, _⟩
  · rw [h2]
    exact (oneOp_kp W.kp h1).within
  · rw [h]
    exact Kp.refl _

theorem Whole.kps (W : Whole cx ih nt L T) (i : Nat) : ∀ d, i + d ≤ L.length → Kp (T.st i) (T.st (i + d))
  | 0, _ => Kp.refl _
  | d + 1, h => (W.kps i d (by omega)).trans (W.kp1 (by omega))

theorem Whole.kp' (W : Whole cx ih nt L T) {i j : Nat} (h : i ≤ j) (hj : j ≤ L.length) : Kp (T.st i) (T.st j) := by
  have := W.kps i (j - i) (by omega)
  rw [show i + (j - i) = j by omega] at this
  exact this

theorem Whole.mem_rn (W : Whole cx ih nt L T) : ∀ i, i ≤ L.length → ∀ x, x ∈ T.rn i ↔ ∃ j, j < i ∧ Loud cx ih nt L T j ∧ x = (j, (T.st j).next, (T.st (j + 1)).next)
  | 0, _, x => by rw [W.rn0]; simp
  | i + 1, hi, x => by
    have ih' := W.mem_rn i (by omega) x
    rcases W.cases (i := i) (by omega) with hl | ⟨hn, h1, h2, h3⟩
    · obtain ⟨o, ho, _, s', _, _, _, _, h2, h3⟩ := id hl
      rw [h2, List.mem_cons, ih']
      have e : (T.st (i + 1)).next = s'.next := by rw [h3]
      constructor
      · rintro (rfl | ⟨j, hj, hl', rfl⟩)
        · exact ⟨i, by omega, hl, by rw [e]⟩
        · exact ⟨j, by omega, hl', rfl⟩
      · rintro ⟨j, hj, hl', rfl⟩
        by_cases hji : j = i
        · subst hji; exact .inl (by rw [e])
        · exact .inr ⟨j, by omega, hl', rfl⟩
    · rw [h3, ih']
      constructor
      · rintro ⟨j, hj, hl', rfl⟩
        exact ⟨j, by omega, hl', rfl⟩
      · rintro ⟨j, hj, hl', rfl⟩
        by_cases hji : j = i
        · subst hji; exact absurd hl' hn
        · exact ⟨j, by omega, hl', rfl⟩

theorem Whole.cover (W : Whole cx ih nt L T) {nm : Nat} (h0 : (T.st 0).next ≤ nm) : ∀ i, i ≤ L.length → nm < (T.st i).next → ∃ j, j < i ∧ Loud cx ih nt L T j ∧ (T.st j).next ≤ nm ∧ nm < (T.st (j + 1)).next
  | 0, _, h => by omega
  | i + 1, hi, h => by
    by_cases hlt : nm < (T.st i).next
    · obtain ⟨j, hj, r⟩ := W.cover h0 i (by omega) hlt
      exact ⟨j, by omega, r⟩
    · rcases W.cases (i := i) (by omega) with hl | ⟨_, h1, _⟩
      · exact ⟨i, by omega, hl, by omega, h⟩
      · rw [h1] at h; omega

theorem Whole.still (W : Whole cx ih nt L T) {a nm : Nat} (h0 : nm < (T.st a).next) : ∀ d, a + d ≤ L.length → (∀ j, a ≤ j → j < a + d → Loud cx ih nt L T j → T.ch (j + 1) = false) → (T.st (a + d)).heap.get nm = (T.st a).heap.get nm
  | 0, _, _ => rfl
  | d + 1, hd, h => by
    rw [← W.still h0 d (by omega) (fun j h1 h2 => h j h1 (by omega))]
    rcases W.cases (i := a + d) (by omega) with hl | ⟨_, h1, _⟩
    · have hc := h (a + d) (by omega) (by omega) hl
      obtain ⟨o, ho, _, s', g1, _, g2, _, _, g3⟩ := hl
      rw [hc] at g2
      have g4 : Nat.blt s'.minw (T.st (a + d)).next = false := by
        cases hb : Nat.blt s'.minw (T.st (a + d)).next
        · rfl
        · rw [hb] at g2; simp at g2
      have g5 : ¬ s'.minw < (T.st (a + d)).next := fun hh => by
        have : Nat.blt s'.minw (T.st (a + d)).next = true := Nat.ble_eq_true_of_le hh
        rw [this] at g4; cases g4
      have g6 := (oneOp_kp W.kp g1).keep nm (by
        show nm < (T.st (a + d)).next
        exact Nat.lt_of_lt_of_le h0 (W.kp' (i := a) (j := a + d) (by omega) (by omega)).le) (by
        have := (W.kp' (i := a) (j := a + d) (by omega) (by omega)).le
        omega)
      show (T.st (a + d + 1)).heap.get nm = _
      rw [g3]
      exact g6
    · show (T.st (a + d + 1)).heap.get nm = _
      rw [h1]

theorem Whole.chs (W : Whole cx ih nt L T) {i : Nat} (h : T.ch i = true) : ∀ d, i + d ≤ L.length → T.ch (i + d) = true
  | 0, _ => h
  | d + 1, hd => by
    have := W.chs h d (by omega)
    rcases W.cases (i := i + d) (by omega) with ⟨o, ho, _, s', _, _, g, _⟩ | ⟨_, _, h1, _⟩
    · show T.ch (i + d + 1) = true
      rw [g, this]
      rfl
    · show T.ch (i + d + 1) = true
      rw [h1, this]

/-- Of a loud operation in chain, all loud ones ahead in the text are ahead by edges. -/
theorem Whole.chain (W : Whole cx ih nt L T) {i : Nat} (hl : Loud cx ih nt L T i) (hc : T.ch (i + 1) = true) (hi : i < L.length) : ∀ j, j < i → Loud cx ih nt L T j → Nat.testBit (anc L i) j = true := by
  obtain ⟨o, ho, _, s', _, g1, _, _, _, _⟩ := hl
  rw [hc] at g1
  intro j hj hlj
  have h1 := g1.resolve_right (by simp)
  exact allAhead_mem h1 _ ((W.mem_rn i (by omega) _).2 ⟨j, hj, hlj, rfl⟩)
end
end Go.Proofs.YtjppaamnicknnaaDoor.Ev
