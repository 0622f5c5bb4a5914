/- What a listed package-level variable (nested arrays and structs of integers, bools and strings) reads as fixes its cells, one by one. No condition. -/
import Derived.LaidLaws
import Derived.ChangeArms
import Derived.OpenShut
namespace Go.Proofs.YtdkkblkbonjjgabGreatDoor
open Go

/-- pieces laid one behind the other: (offset, size, cells) -/
def joined : Nat → List (Nat × Nat × List Value) → Option (List Value)
  | _, [] => some []
  | k, (off, size, piece) :: r => if off = k ∧ piece.length = size then (joined (k + size) r).map (piece ++ ·) else none

/-- the cells of a datum that fixes them -/
def unread {H : Type} (P : Program) : Nat → TypeId → DataW H → Option (List Value)
  | 0, _, _ => none
  | n + 1, t, d =>
    match P.underlying t, d with
    | some (.int k), .lit (.int k' z) => if k' = k then some [.int k z] else none
    | some .bool, .lit (.bool b) => some [.bool b]
    | some .string, .lit (.string l) => some [.string ⟨l.toArray⟩]
    | some (.array m e), .agg ds =>
      if ds.length = m ∧ P.cellsOf t = m * P.cellsOf e then
        (ds.mapM fun d => unread P n e d).bind fun ps => joined 0 ((List.range m).zip ps |>.map fun x => (x.1 * P.cellsOf e, P.cellsOf e, x.2))
      else none
    | some (.struct fs), .agg ds =>
      if ds.length = fs.size then
        ((fs.toList.zip ds).mapM fun x => (unread P n x.1.type x.2).map fun p => (x.1.offset, P.cellsOf x.1.type, p)).bind fun ps =>
          (joined 0 ps).bind fun cs => if cs.length = P.cellsOf t then some cs else none
      else none
    | _, _ => none

theorem joined_eq {cs : List Value} : ∀ {ps : List (Nat × Nat × List Value)} {k : Nat} {r : List Value}, joined k ps = some r →
    (∀ x ∈ ps, (cs.drop x.1).take x.2.1 = x.2.2) → ∃ rest, cs.drop k = r ++ rest ∧ rest = cs.drop (k + r.length)
  | [], k, r, h, _ => by
    simp only [joined, Option.some.injEq] at h
    subst h
    exact ⟨cs.drop k, by simp, by simp⟩
  | (off, size, piece) :: ps, k, r, h, hp => by
    simp only [joined] at h
    split at h
    · rename_i hc
      obtain ⟨rfl, hl⟩ := hc
      obtain ⟨r', hr', rfl⟩ := Option.map_eq_some_iff.1 h
      have h1 := hp _ (List.mem_cons_self ..)
      simp only at h1
      obtain ⟨rest, e1, e2⟩ := joined_eq hr' fun x hx => hp x (List.mem_cons_of_mem _ hx)
      refine ⟨rest, ?_, ?_⟩
      · have := List.take_append_drop size (cs.drop off)
        rw [h1, List.drop_drop, e1] at this
        rw [← this, List.append_assoc]
      · rw [e2]; simp only [List.length_append]; congr 1; omega
    · cases h

theorem mapM_some_at {α β : Type} {f : α → Option β} : ∀ {l : List α} {r : List β}, l.mapM f = some r → r.length = l.length ∧ ∀ (i : Nat) (b : β), r[i]? = some b → ∃ a, l[i]? = some a ∧ f a = some b
  | [], r, h => by
    simp at h; subst h; exact ⟨rfl, fun i b hb => by simp at hb⟩
  | x :: l, r, h => by
    simp only [List.mapM_cons, Option.bind_eq_bind, Option.bind_eq_some_iff, Option.pure_def, Option.some.injEq] at h
    obtain ⟨b, hb, r', hr', rfl⟩ := h
    obtain ⟨hl, ha⟩ := mapM_some_at hr'
    refine ⟨by simp [hl], fun i c hc => ?_⟩
    cases i with
    | zero => simp at hc; subst hc; exact ⟨x, rfl, hb⟩
    | succ i => simpa using ha i c (by simpa using hc)

variable {H : Type} {enc : TypeId × Value → H} {P : Program} {w : World} {base : Nat} {sp : Nat → Bool} {held : Bool}

theorem unread_eq : ∀ (n fuel : Nat) (t : TypeId) (d : DataW H) (cs vs : List Value) (p : List MemPlace), unread P n t d = some vs → DataW.trod enc P w base sp held fuel t cs = some (d, p) → cs = vs := by
  intro n
  induction n with
  | zero => intro fuel t d cs vs p h; simp [unread] at h
  | succ n ih =>
    intro fuel t d cs vs p h ht
    cases hu : P.underlying t with
    | none => simp [unread, hu] at h
    | some u =>
      cases u with
      | int k =>
        cases d with
        | lit l =>
          cases l with
          | int k' z =>
            obtain ⟨z', e1, e2, _⟩ := DataW.trod_int hu ht
            simp only [unread, hu] at h
            split at h
            · simp only [Option.some.injEq] at h
              simp only [Prod.mk.injEq, DataW.lit.injEq, Lit.int.injEq] at e2
              subst h
              rw [e1, e2.1.2]
            · cases h
          | _ => simp [unread, hu] at h
        | _ => simp [unread, hu] at h
      | bool =>
        cases d with
        | lit l =>
          cases l with
          | bool b =>
            simp only [unread, hu, Option.some.injEq] at h
            subst h
            cases fuel with
            | zero => simp [DataW.trod] at ht
            | succ m =>
              unfold DataW.trod at ht
              rw [hu] at ht
              split at ht <;> simp_all
          | _ => simp [unread, hu] at h
        | _ => simp [unread, hu] at h
      | string =>
        cases d with
        | lit l =>
          cases l with
          | string b =>
            simp only [unread, hu, Option.some.injEq] at h
            subst h
            obtain ⟨s, e1, e2, _⟩ := DataW.trod_string hu ht
            simp only [Prod.mk.injEq, DataW.lit.injEq, Lit.string.injEq] at e2
            rw [e1, e2.1]
          | _ => simp [unread, hu] at h
        | _ => simp [unread, hu] at h
      | array m e =>
        cases d with
        | agg ds =>
          simp only [unread, hu] at h
          split at h
          · rename_i hc
            obtain ⟨ps, hps, hj⟩ := Option.bind_eq_some_iff.1 h
            obtain ⟨xs, f', _, hx, hlen, hxl, hget⟩ := DataW.trod_array hu ht
            simp only [Prod.mk.injEq, DataW.agg.injEq] at hx
            obtain ⟨hpl, hpa⟩ := mapM_some_at hps
            obtain ⟨rest, e1, e2⟩ := joined_eq (cs := cs) hj (fun x hx' => by
              obtain ⟨y, hy, rfl⟩ := List.mem_map.1 hx'
              obtain ⟨i, hi⟩ := List.getElem?_of_mem hy
              rw [List.getElem?_zip_eq_some] at hi
              obtain ⟨hi1, hi2⟩ := hi
              have him : i < m := by
                have := (List.getElem?_eq_some_iff.1 hi1).1
                simpa using this
              have hyi : y.1 = i := by
                rw [List.getElem?_range him] at hi1
                exact (Option.some.inj hi1).symm
              simp only [hyi]
              obtain ⟨a, ha, hf⟩ := hpa i y.2 hi2
              have hg := hget i him
              have hxi : xs[i]? = some (xs[i]'(by omega)) := List.getElem?_eq_getElem (by omega)
              rw [hxi] at hg
              have had : a = (xs[i]'(by omega)).1 := by
                have h9 := congrArg (fun l => l[i]?) hx.1
                simp only [List.getElem?_map, hxi, ha, Option.map_some, Option.some.injEq] at h9
                exact h9
              subst had
              exact ih f' e _ _ _ _ hf hg)
            have hjl : vs.length = m * P.cellsOf e := by
              have key : ∀ (l : List (Nat × List Value)) (k : Nat) (r : List Value), joined k (l.map fun x => (x.1 * P.cellsOf e, P.cellsOf e, x.2)) = some r → r.length = l.length * P.cellsOf e := by
                intro l
                induction l with
                | nil => intro k r hr; simp [joined] at hr; subst hr; simp
                | cons y l ihl =>
                  intro k r hr
                  simp only [List.map_cons, joined] at hr
                  split at hr
                  · rename_i hc'
                    obtain ⟨r', hr', rfl⟩ := Option.map_eq_some_iff.1 hr
                    rw [List.length_append, hc'.2, ihl _ _ hr', List.length_cons, Nat.add_mul]
                    omega
                  · cases hr
              have := key _ _ _ hj
              rw [this]
              congr 1
              simp [hpl, hc.1]
            rw [List.drop_zero] at e1
            rw [e1, e2, Nat.zero_add, hjl, ← hc.2, ← hlen]
            simp
          · cases h
        | _ => simp [unread, hu] at h
      | struct fs =>
        cases d with
        | agg ds =>
          simp only [unread, hu] at h
          split at h
          · rename_i hc
            obtain ⟨ps, hps, hj⟩ := Option.bind_eq_some_iff.1 h
            obtain ⟨vs', hj', hjl⟩ := Option.bind_eq_some_iff.1 hj
            split at hjl
            · rename_i hvl
              simp only [Option.some.injEq] at hjl
              subst hjl
              obtain ⟨xs, f', _, hx, hlen, hxl, hget⟩ := DataW.trod_struct hu ht
              simp only [Prod.mk.injEq, DataW.agg.injEq] at hx
              obtain ⟨hpl, hpa⟩ := mapM_some_at hps
              obtain ⟨rest, e1, e2⟩ := joined_eq (cs := cs) hj' (fun x hx' => by
                obtain ⟨i, hi⟩ := List.getElem?_of_mem hx'
                obtain ⟨a, ha, hf⟩ := hpa i x hi
                rw [List.getElem?_zip_eq_some] at ha
                obtain ⟨ha1, ha2⟩ := ha
                obtain ⟨pc, hpc, rfl⟩ := Option.map_eq_some_iff.1 hf
                have ha1' : fs[i]? = some a.1 := by simpa using ha1
                have hg := hget i a.1 ha1'
                have hil : i < xs.length := by
                  have := (Array.getElem?_eq_some_iff.1 ha1').1
                  omega
                have hxi : xs[i]? = some (xs[i]'hil) := List.getElem?_eq_getElem hil
                rw [hxi] at hg
                have had : a.2 = (xs[i]'hil).1 := by
                  have h9 := congrArg (fun l => l[i]?) hx.1
                  simp only [List.getElem?_map, hxi, ha2, Option.map_some, Option.some.injEq] at h9
                  exact h9
                rw [had] at hpc
                exact ih f' _ _ _ _ _ hpc hg)
              rw [List.drop_zero] at e1
              rw [e1, e2, Nat.zero_add, hvl, ← hlen]
              simp
            · cases hjl
          · cases h
        | _ => simp [unread, hu] at h
      | _ => cases d <;> simp [unread, hu] at h

/-- THE LISTED VARIABLE AT PLACE j OF THE LIST HOLDS JUST THESE CELLS. -/
theorem laid_cells {n : Nat} {laid : List (String × DataW Unit)} (hL : laidMet P laid w) {j : Nat} {name : String} {d : DataW Unit} {g t : Nat} {vs : List Value}
    (hj : laid[j]? = some (name, d)) (hg : P.globalNamed name = some g) (ht : (P.globals[g]?).map (·.type) = some t) (hu : unread P n t d = some vs) :
    w.var? P name = some vs.toArray := by
  obtain ⟨ps, hl, -⟩ := hL
  revert ps
  induction laid generalizing j with
  | nil => simp at hj
  | cons x r ih =>
    obtain ⟨nm, d'⟩ := x
    intro ps hl
    obtain ⟨g', t', cs, f, p, q, hg', ht', hv, htr, hr, _⟩ := hl
    cases j with
    | zero =>
      simp only [List.getElem?_cons_zero, Option.some.injEq, Prod.mk.injEq] at hj
      obtain ⟨rfl, rfl⟩ := hj
      obtain rfl := Option.some.inj (hg.symm.trans hg')
      obtain rfl := Option.some.inj (ht.symm.trans ht')
      rw [hv]
      congr 1
      have := unread_eq _ _ _ _ _ _ _ hu htr
      rw [← this]
    | succ j => exact ih (by simpa using hj) q hr

theorem laid_cell {n : Nat} {laid : List (String × DataW Unit)} (hL : laidMet P laid w) {j : Nat} {name : String} {d : DataW Unit} {g t : Nat} {vs : List Value}
    (hj : laid[j]? = some (name, d)) (hg : P.globalNamed name = some g) (ht : (P.globals[g]?).map (·.type) = some t) (hu : unread P n t d = some vs) (i : Nat) :
    w.cell? ⟨g, i, none⟩ = vs[i]? := by
  have := World.var?_cell hg (laid_cells hL hj hg ht hu) i
  simpa using this

end Go.Proofs.YtdkkblkbonjjgabGreatDoor
