/- The comparison of two tokens in Same, and the reference's. No condition. -/
import Derived.Test.YtknjmnabibjhfaaDoorTokRow
namespace Go.Proofs.YtknjmnabibjhfaaDoor.Tok
open Go Go.RowKit Go.PlainAid
def agg (p : E) : Value := .agg #[.int .i64 p.1, .int .i64 p.2.1, .int .i64 p.2.2.1, .string p.2.2.2.1, .string p.2.2.2.2.1, .int .i64 p.2.2.2.2.2.1, .int .i64 p.2.2.2.2.2.2.1, .bool p.2.2.2.2.2.2.2]
/-- equal but for the places -/
def eqT (p q : E) : Bool := decide (p.1 = q.1) && (p.2.2.2.1.toList == q.2.2.2.1.toList) && (p.2.2.2.2.1.toList == q.2.2.2.2.1.toList) && decide (p.2.2.2.2.2.1 = q.2.2.2.2.2.1) && decide (p.2.2.2.2.2.2.1 = q.2.2.2.2.2.2.1) && (p.2.2.2.2.2.2.2 == q.2.2.2.2.2.2.2)
set_option maxRecDepth 100000 in
set_option maxHeartbeats 4000000 in
theorem eq_any (a l c : Int) (t v : ByteArray) (n s : Int) (j : Bool) (a' l' c' : Int) (t' v' : ByteArray) (n' s' : Int) (j' : Bool) (w : World) :
    Calls Tryd.prog 9 #[agg (a, l, c, t, v, n, s, j), agg (a', l', c', t', v', n', s', j')] w fun e w' => e = .returned (.bool (eqT (a, l, c, t, v, n, s, j) (a', l', c', t', v', n', s', j'))) ∧ Below w.heap.size w w' := by
  unfold agg
  go_enter Tryd.func9, Tryd.ntmps9
  go_wp2_with fail
  go_region_held3 (fun w' => w'.cell? ⟨w.heap.size + 1, 1, none⟩ = some (.int .i64 l') ∧ w'.cell? ⟨w.heap.size + 1, 2, none⟩ = some (.int .i64 c')) (go_keep) (fail)
  go_wp2_with fail
  all_goals
    go_returns
    refine ⟨?_, ?_⟩
  all_goals first
    | (simp_all [eqT]; done)
    | exact (((Below.refl _ _).alloc (Nat.le_refl _) _).alloc (by simp) _).drew
    | fail
end Go.Proofs.YtknjmnabibjhfaaDoor.Tok
