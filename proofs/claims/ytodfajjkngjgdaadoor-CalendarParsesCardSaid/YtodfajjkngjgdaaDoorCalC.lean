/- The example of the chapter on days (known). Conditions: the tables hold what the program's text lays. -/
import Derived.Test.YtodfajjkngjgdaaDoorCalB
import Derived.LoopN
namespace Go.Proofs.YtodfajjkngjgdaaDoor
open Go Go.RowKit Go.PlainAid

def unitsV : List Value := [.string ⟨#[100]⟩, .int .i64 86400000, .string ⟨#[104]⟩, .int .i64 3600000, .string ⟨#[109]⟩, .int .i64 60000, .string ⟨#[115]⟩, .int .i64 1000, .string ⟨#[109, 115]⟩, .int .i64 1]
def Units (w : World) : Prop := ∀ i : Nat, w.cell? ⟨0, i, none⟩ = unitsV[i]?
theorem Units.at_ {w : World} (h : Units w) {i : Nat} {v : Value} (e : unitsV[i]? = some v) : w.cell? ⟨0, i, none⟩ = some v := (h i).trans e
theorem Units.below {w w' : World} (h : Units w) (hb : Below w.heap.size w w') : Units w' := by
  have h0 : 0 < w.heap.size := World.block_lt_of_cell? w _ (h.at_ (i := 0) rfl)
  exact fun i => (hb.cell h0).trans (h i)

/-- the three tables -/
structure Laid (w : World) : Prop where
  tab : Tab w
  lens : Lens w
  units : Units w
theorem var_lt {P : Program} {w : World} {name : String} {g : Nat} {cs : Array Value} (hg : P.globalNamed name = some g) (h : w.var? P name = some cs) (hp : 0 < cs.size) : g < w.heap.size := by
  have := World.var?_cell hg h 0
  have he : cs[0]? = some cs[0] := Array.getElem?_eq_getElem hp
  rw [he] at this
  exact World.block_lt_of_cell? w _ this
theorem Laid.lt {w : World} (h : Laid w) : 2 < w.heap.size :=
  var_lt (P := Tryd.prog) (name := "internal/strconv.uint64pow10") (by kernel_rfl) h.tab (by decide)
theorem Laid.below {w w' : World} (h : Laid w) (hb : Below w.heap.size w w') : Laid w' := ⟨Tab.below h.tab hb h.lt, h.lens.below hb, h.units.below hb⟩
theorem Laid.drewN {w : World} (h : Laid w) (n : Nat) : Laid (w.drewN n) := h.below (below_drewN (Below.refl _ _) n)

theorem itoa_digit (i : Nat) (hi : i < 10) (w : World) : Calls Tryd.prog 62 #[.int .i64 i] w fun e w' => e = .returned (.string ⟨#[UInt8.ofNat (48 + i)]⟩) ∧ w' = w := by
  have := Tryd.strconv_Itoa_small i (by omega) w
  rw [Lib.decDigits_one hi] at this
  exact this
theorem itoa_1 (w : World) : Calls Tryd.prog 62 #[.int .i64 1] w fun e w' => e = .returned (.string ⟨#[49]⟩) ∧ w' = w := itoa_digit 1 (by omega) w
theorem itoa_2 (w : World) : Calls Tryd.prog 62 #[.int .i64 2] w fun e w' => e = .returned (.string ⟨#[50]⟩) ∧ w' = w := itoa_digit 2 (by omega) w
theorem itoa_3 (w : World) : Calls Tryd.prog 62 #[.int .i64 3] w fun e w' => e = .returned (.string ⟨#[51]⟩) ∧ w' = w := itoa_digit 3 (by omega) w
theorem itoa_4 (w : World) : Calls Tryd.prog 62 #[.int .i64 4] w fun e w' => e = .returned (.string ⟨#[52]⟩) ∧ w' = w := itoa_digit 4 (by omega) w
theorem itoa_5 (w : World) : Calls Tryd.prog 62 #[.int .i64 5] w fun e w' => e = .returned (.string ⟨#[53]⟩) ∧ w' = w := itoa_digit 5 (by omega) w

/-- a contract that leaves the world alone, behind draws that the walk has joined -/
theorem again_quiet {P : Program} {f : FuncId} {xs : Array Value} {w0 : World} {j k : Nat} {r : Value} (c : Calls P f xs (w0.drewN (j + k)) fun e w' => e = .returned r ∧ w' = w0.drewN (j + k)) :
    Calls P f xs (w0.drewN (j + k)) fun e w' => e = .returned r ∧ ∃ i, w' = w0.drewN (j + i) := by
  refine c.mono ?_
  rintro e w' ⟨h1, h2⟩
  exact ⟨h1, k, h2⟩

set_option maxHeartbeats 4000000 in
theorem span_known (w : World) (hU : Units w) :
    Calls Tryd.prog 40 #[.int .i64 93784005] w fun e w' => e = .returned (.tuple #[.string ⟨#[49, 100, 50, 104, 51, 109, 52, 115, 53, 109, 115]⟩, .int .i64 0]) ∧ ∃ n, w' = w.drewN n := by
  have u0 := hU.at_ (i := 0) rfl
  have u1 := hU.at_ (i := 1) rfl
  have u2 := hU.at_ (i := 2) rfl
  have u3 := hU.at_ (i := 3) rfl
  have u4 := hU.at_ (i := 4) rfl
  have u5 := hU.at_ (i := 5) rfl
  have u6 := hU.at_ (i := 6) rfl
  have u7 := hU.at_ (i := 7) rfl
  have u8 := hU.at_ (i := 8) rfl
  have u9 := hU.at_ (i := 9) rfl
  clear hU
  go_enter Tryd.func40, Tryd.ntmps40
  go_wp2_with fail
  refine wp_loop_rounds 6 ?_
  rw [rounds_succ]
  go_wp2_with fail
  go_quiet ((go_at_call 62; exact Calls.quiet_of_same (itoa_1 _)))
  go_wp2_with fail
  rw [rounds_succ]
  go_wp2_with fail
  go_quiet ((go_at_call 62; exact again_quiet (itoa_2 _)))
  go_wp2_with fail
  rw [rounds_succ]
  go_wp2_with fail
  go_quiet ((go_at_call 62; exact again_quiet (itoa_3 _)))
  go_wp2_with fail
  rw [rounds_succ]
  go_wp2_with fail
  go_quiet ((go_at_call 62; exact again_quiet (itoa_4 _)))
  go_wp2_with fail
  rw [rounds_succ]
  go_wp2_with fail
  go_quiet ((go_at_call 62; exact again_quiet (itoa_5 _)))
  go_wp2_with fail
  rw [rounds_succ]
  go_wp2_with fail
  go_ret2
  exact ⟨rfl, _, rfl⟩

theorem dec_2000 : Lib.decDigits 2000 = [50, 48, 48, 48] := by simp [Lib.decDigits]
theorem dec_2 : Lib.decDigits 2 = [50] := by simp [Lib.decDigits]
theorem dec_29 : Lib.decDigits 29 = [50, 57] := by simp [Lib.decDigits]
theorem known_date : dateL 2000 2 29 = [50, 48, 48, 48, 45, 48, 50, 45, 50, 57] := by
  unfold dateL padL
  rw [← Lib.decDigits_length, ← Lib.decDigits_length, ← Lib.decDigits_length, dec_2000, dec_2, dec_29]
  rfl

set_option maxHeartbeats 1000000 in
theorem text_ok (n : Int) (w : World) (hl : Laid w) (h1 : -719162 ≤ n) (h2 : n ≤ 2932896) :
    Calls Tryd.prog 28 #[.int .i64 n] w fun e w' => ∃ (t : ByteArray) (y m d : Nat), e = .returned (.tuple #[.string t, .int .i64 0]) ∧ isDateB y m d ∧ daysN y m d = n ∧ t.data.toList = dateL y m d ∧ Below w.heap.size w w' := by
  go_enter Tryd.func28, Tryd.ntmps28
  go_wp2_with (first | (go_at_call 51; refine (dayText_any _ _ hl.lens hl.tab hl.lt h1 h2).mono ?_; rintro e w' ⟨t, y, m, d, rfl, hd, hn, ht, hb⟩; have HD := hide hd; have HN := hide hn; have HT := hide ht; clear hd hn ht) | go_in)
  go_ret2
  exact ⟨t, y, m, d, rfl, HD.out, HN.out, HT.out, hb⟩
set_option maxHeartbeats 1000000 in
theorem text_no (n : Int) (w : World) (h : n < -719162 ∨ 2932896 < n) :
    Calls Tryd.prog 28 #[.int .i64 n] w fun e w' => e = .returned (.tuple #[.string ⟨#[]⟩, .int .i64 2]) ∧ w = w' := by
  rcases h with h | h
  · go_enter Tryd.func28, Tryd.ntmps28
    go_wp2
    go_ret2
    exact ⟨rfl, rfl⟩
  · have h' : -719162 ≤ n := by omega
    have q : decide (n ≤ 2932896) = false := by simp; omega
    go_enter Tryd.func28, Tryd.ntmps28
    go_wp2
    go_ret2
    exact ⟨rfl, rfl⟩

theorem text_known (w : World) (hl : Laid w) :
    Calls Tryd.prog 28 #[.int .i64 11016] w fun e w' => e = .returned (.tuple #[.string ⟨#[50, 48, 48, 48, 45, 48, 50, 45, 50, 57]⟩, .int .i64 0]) ∧ Below w.heap.size w w' := by
  refine (text_ok 11016 w hl (by decide) (by decide)).mono ?_
  rintro e w' ⟨t, y, m, d, rfl, ⟨h1, h2, h3, h4, h5, h6⟩, hn, ht, hb⟩
  have hk : daysN 2000 2 29 = 11016 := by decide
  have hu := date_unique h1 h2 h3 h4 h5 h6 (y' := 2000) (m' := 2) (d' := 29) (by decide) (by decide) (by decide) (by decide) (by decide) (by decide) (hn.trans hk.symm)
  obtain rfl : y = 2000 := by omega
  obtain rfl : m = 2 := by omega
  obtain rfl : d = 29 := by omega
  rw [known_date] at ht
  have e1 : t = ⟨#[50, 48, 48, 48, 45, 48, 50, 45, 50, 57]⟩ := by
    apply ByteArray.ext
    apply Array.toList_inj.1
    exact ht
  rw [e1]
  exact ⟨rfl, hb⟩

theorem days_known (w : World) (hL : Lens w) :
    Calls Tryd.prog 19 #[.int .i64 2000, .int .i64 2, .int .i64 29] w fun e w' => e = .returned (.tuple #[.int .i64 11016, .int .i64 0]) ∧ w = w' := by
  have hk : daysN 2000 2 29 = 11016 := by decide
  have := days_ok 2000 2 29 w hL ⟨by decide, by decide, by decide, by decide, by decide, by decide⟩
  rwa [hk] at this

set_option maxHeartbeats 1000000 in
theorem known_any (w : World) (hl : Laid w) : Calls Tryd.prog 16 #[] w fun e w' => e = .returned (.bool true) ∧ Below w.heap.size w w' := by
  go_enter Tryd.func16, Tryd.ntmps16
  go_wp2_with fail
  refine (days_known _ hl.lens).mono ?_
  rintro e w' ⟨rfl, rfl⟩
  go_wp2_with fail
  refine (text_known _ hl).mono ?_
  rintro e w1 ⟨rfl, hb1⟩
  go_wp2_with fail
  refine (span_known _ (hl.below hb1).units).mono ?_
  rintro e w' ⟨rfl, m, rfl⟩
  go_wp2_with fail
  go_ret
  exact ⟨rfl, below_drewN hb1 m⟩
end Go.Proofs.YtodfajjkngjgdaaDoor
