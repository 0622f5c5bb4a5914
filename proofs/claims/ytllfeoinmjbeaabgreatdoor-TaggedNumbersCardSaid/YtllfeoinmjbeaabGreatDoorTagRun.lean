/- The law TaggedNumbers: its runs and its walk. Condition: the listed tables. -/
import Derived.Test.YtllfeoinmjbeaabGreatDoorTagLaw
namespace Go.Proofs.YtllfeoinmjbeaabGreatDoor
open Go Go.RowKit Go.PlainAid TagN

structure Holds (n : Int) (s : ByteArray) (fs : List Ev.Fact) : Prop where
  ok : ∀ f ∈ fs, @Ev.Fact.holds (envT n s) f
structure Goods (n : Int) (s : ByteArray) (cs : List CallT) : Prop where
  ok : ∀ c ∈ cs, OK n s c
theorem Holds.nil {n : Int} {s : ByteArray} : Holds n s [] := ⟨fun _ h => (List.not_mem_nil h).elim⟩
theorem Holds.cons {n : Int} {s : ByteArray} {f : Ev.Fact} {fs : List Ev.Fact} (h : @Ev.Fact.holds (envT n s) f) (t : Holds n s fs) : Holds n s (f :: fs) := ⟨List.forall_mem_cons.2 ⟨h, t.ok⟩⟩
theorem Goods.nil {n : Int} {s : ByteArray} : Goods n s [] := ⟨fun _ h => (List.not_mem_nil h).elim⟩
theorem Goods.cons {n : Int} {s : ByteArray} {c : CallT} {cs : List CallT} (h : OK n s c) (t : Goods n s cs) : Goods n s (c :: cs) := ⟨List.forall_mem_cons.2 ⟨h, t.ok⟩⟩
noncomputable def cxT {n : Int} {s : ByteArray} {fs : List Ev.Fact} {cs : List CallT} (h : Holds n s fs) (t : Goods n s cs) : @Ev.Cx (envT n s) := @Ev.Cx.mk (envT n s) Tryz.prog (Ev.oldL tabs) fs h.ok cs t.ok
noncomputable abbrev Runs {n : Int} {s : ByteArray} {fs : List Ev.Fact} {cs : List CallT} (h : Holds n s fs) (t : Goods n s cs) : Bool :=
  Ev.isTrue (@Ev.callF (envT n s) (cxT h t) 1000000 3 [.sint .i64 (.v 0), .sstr (.v 0)] Ev.noSt)
theorem walk_of {n : Int} {s : ByteArray} {fs : List Ev.Fact} {cs : List CallT} {h : Holds n s fs} {t : Goods n s cs} (r : Runs h t = true) {w : World} (hL : Laid w) :
    Calls Tryz.prog 3 #[.int .i64 n, .string s] w fun e w' => e = .returned (.bool true) ∧ Below w.heap.size w w' :=
  @Ev.named_trueF (envT n s) (cxT h t) good 1000000 3 [.sint .i64 (.v 0), .sstr (.v 0)] [.int .i64 n, .string s] rfl r w hL.old

abbrev fLong : List Ev.Fact := [.lo (.len (.v 0)) 51]
abbrev fLow : List Ev.Fact := [.lo (.len (.v 0)) 0, .hi (.len (.v 0)) 50, .lo (.len (.v 1)) 0, .hi (.len (.v 1)) 9, .hi (.v 0) (-2305843009213693953)]
abbrev fNeg : List Ev.Fact := [.lo (.len (.v 0)) 0, .hi (.len (.v 0)) 50, .lo (.len (.v 1)) 0, .hi (.len (.v 1)) 9, .lo (.v 0) (-2305843009213693952), .hi (.v 0) (-1), .lo zNeg 0, .hi zNeg 4611686018427387903]
abbrev fPos : List Ev.Fact := [.lo (.len (.v 0)) 0, .hi (.len (.v 0)) 50, .lo (.len (.v 1)) 0, .hi (.len (.v 1)) 9, .lo (.v 0) 0, .hi (.v 0) 2305843009213693951, .lo zPos 0, .hi zPos 4611686018427387903]
abbrev fTop : List Ev.Fact := [.lo (.len (.v 0)) 0, .hi (.len (.v 0)) 50, .lo (.len (.v 1)) 0, .hi (.len (.v 1)) 9, .lo (.v 0) 2305843009213693952, .hi (.v 0) 4611686018427387903]
abbrev fHigh : List Ev.Fact := [.lo (.len (.v 0)) 0, .hi (.len (.v 0)) 50, .lo (.len (.v 1)) 0, .lo (.v 0) 4611686018427387904]

section
variable {n : Int} {s : ByteArray}
theorem run_long (h : Holds n s fLong) (t : Goods n s [cKnown]) : Runs h t = true := by kernel_rfl
theorem run_low (h : Holds n s fLow) (t : Goods n s [cKnown]) : Runs h t = true := by kernel_rfl
theorem run_neg (h : Holds n s fNeg) (t : Goods n s [cKnown, cZNeg]) : Runs h t = true := by kernel_rfl
theorem run_pos (h : Holds n s fPos) (t : Goods n s [cKnown, cPut, cRef, cTake, cUnz, cRefUnz, cZPos]) : Runs h t = true := by kernel_rfl
theorem run_top (h : Holds n s fTop) (t : Goods n s [cKnown, cPut, cRef, cTake, cUnz, cRefUnz]) : Runs h t = true := by kernel_rfl
theorem run_high (h : Holds n s fHigh) (t : Goods n s [cKnown]) : Runs h t = true := by kernel_rfl
end
theorem len_v0 {n : Int} {s : ByteArray} : @Ev.IE.den (envT n s) (.len (.v 0)) = (s.size : Int) := rfl
theorem put_len {n : Int} (h : n ≤ 4611686018427387903) : (putB n.toNat).size ≤ 9 := putB_size ⟨by omega⟩
theorem taggedNumbers_walk (n : Int) (s : ByteArray) (w : World) (hL : Laid w) (_wn : (Lit.int .i64 n).wf = true) (_hs : s.size ≤ maxLen) : Calls Tryz.prog 3 #[.int .i64 n, .string s] w fun e w' => e = .returned (.bool true) ∧ Below w.heap.size w w' := by
  by_cases hl : 51 ≤ s.size
  · exact walk_of (run_long (.cons (by show (51 : Int) ≤ (s.size : Nat); omega) .nil) (.cons ok_known .nil)) hL
  have z0 : @Ev.Fact.holds (envT n s) (.lo (.len (.v 0)) 0) := by show (0 : Int) ≤ (s.size : Nat); omega
  have z1 : @Ev.Fact.holds (envT n s) (.hi (.len (.v 0)) 50) := by show ((s.size : Nat) : Int) ≤ 50; omega
  have z2 : @Ev.Fact.holds (envT n s) (.lo (.len (.v 1)) 0) := by show (0 : Int) ≤ ((putB n.toNat).size : Nat); omega
  by_cases h4 : 4611686018427387904 ≤ n
  · exact walk_of (run_high (.cons z0 (.cons z1 (.cons z2 (.cons h4 .nil)))) (.cons ok_known .nil)) hL
  have z3 : @Ev.Fact.holds (envT n s) (.hi (.len (.v 1)) 9) := by
    show ((putB n.toNat).size : Int) ≤ 9
    have := put_len (n := n) (by omega)
    omega
  by_cases h1 : n ≤ -2305843009213693953
  · exact walk_of (run_low (.cons z0 (.cons z1 (.cons z2 (.cons z3 (.cons h1 .nil))))) (.cons ok_known .nil)) hL
  by_cases h2 : n ≤ -1
  · have e := den_neg (s := s) (show -2305843009213693952 ≤ n by omega) h2
    refine walk_of (run_neg (.cons z0 (.cons z1 (.cons z2 (.cons z3 (.cons ?_ (.cons h2 (.cons ?_ (.cons ?_ .nil)))))))) (.cons ok_known (.cons (ok_zneg (by omega) h2) .nil))) hL
    · show (-2305843009213693952 : Int) ≤ n
      omega
    · show (0 : Int) ≤ @Ev.IE.den (envT n s) zNeg
      omega
    · show @Ev.IE.den (envT n s) zNeg ≤ 4611686018427387903
      omega
  have h0 : 0 ≤ n := by omega
  have h3 : n ≤ 4611686018427387903 := by omega
  by_cases h5 : n ≤ 2305843009213693951
  · have e := den_pos (s := s) h0 h5
    refine walk_of (run_pos (.cons z0 (.cons z1 (.cons z2 (.cons z3 (.cons h0 (.cons h5 (.cons ?_ (.cons ?_ .nil)))))))) (.cons ok_known (.cons (ok_put h0 h3) (.cons (ok_ref h0 h3) (.cons (ok_take h0 h3 (by omega)) (.cons (ok_unz h0 h3) (.cons (ok_refUnz h0 h3) (.cons (ok_zpos h0 h5) .nil)))))))) hL
    · show (0 : Int) ≤ @Ev.IE.den (envT n s) zPos
      omega
    · show @Ev.IE.den (envT n s) zPos ≤ 4611686018427387903
      omega
  · refine walk_of (run_top (.cons z0 (.cons z1 (.cons z2 (.cons z3 (.cons ?_ (.cons h3 .nil)))))) (.cons ok_known (.cons (ok_put h0 h3) (.cons (ok_ref h0 h3) (.cons (ok_take h0 h3 (by omega)) (.cons (ok_unz h0 h3) (.cons (ok_refUnz h0 h3) .nil))))))) hL
    show (2305843009213693952 : Int) ≤ n
    omega
end Go.Proofs.YtllfeoinmjbeaabGreatDoor
