/- What charset.encode appends: the encoding of a code point. Conditions: the table of the forms holds what the program's text lays; the row has room. -/
import Derived.Test.YtmmigpncoojobacDoorChH
import Derived.Deep.RegionHeld3
import Derived.Deep.AppendLies
namespace Go.Proofs.YtmmigpncoojobacDoor
open Go Go.RowKit Go.PlainAid

theorem u8Info : (Tryd.prog.info? 5).map (fun i => (i.zero, i.size, i.bytes)) = some (some (.int .u8 0), 1, 1) := by kernel_rfl

theorem or192 {b : Int} (h0 : 0 ≤ b) (h1 : b < 32) : bits BinOp.or IntKind.u8 192 b = 192 + b :=
  all_u8 (P := fun b => b < 32 → bits BinOp.or IntKind.u8 192 b = 192 + b) (by decide +kernel) h0 (by omega) h1
theorem or224 {b : Int} (h0 : 0 ≤ b) (h1 : b < 16) : bits BinOp.or IntKind.u8 224 b = 224 + b :=
  all_u8 (P := fun b => b < 16 → bits BinOp.or IntKind.u8 224 b = 224 + b) (by decide +kernel) h0 (by omega) h1
theorem or240 {b : Int} (h0 : 0 ≤ b) (h1 : b < 8) : bits BinOp.or IntKind.u8 240 b = 240 + b :=
  all_u8 (P := fun b => b < 8 → bits BinOp.or IntKind.u8 240 b = 240 + b) (by decide +kernel) h0 (by omega) h1
theorem or0 {b : Int} (h0 : 0 ≤ b) (h1 : b ≤ 255) : bits BinOp.or IntKind.u8 0 b = b :=
  all_u8 (P := fun b => bits BinOp.or IntKind.u8 0 b = b) (by decide +kernel) h0 h1
theorem follow_u8 (p : Int) : bits BinOp.or IntKind.u8 128 (bits BinOp.andNot IntKind.u8 (p % 256) 192) = 128 + p % 64 := by
  rw [mask192 (by omega) (by omega), show p % 256 % 64 = p % 64 by omega]
  exact all_u8 (P := fun b => b < 64 → bits BinOp.or IntKind.u8 128 b = 128 + b) (by decide +kernel) (by omega) (by omega) (by omega)

/-- what a call of encode comes to -/
def EncPost (p : Int) (B n : Nat) (xs : List Value) (w : World) (e : Ending) (w' : World) : Prop :=
  ∃ v', e = .returned v' ∧ w'.ownsRow B 5 1 v' (n + (encL p).length) (xs ++ (encL p).map (Value.int .u8)) ∧ Below B w w'

set_option maxHeartbeats 4000000 in
theorem encode0 (v : Value) (p : Int) (B n : Nat) (xs : List Value) (w : World) (hF : Forms w) (hown : w.ownsRow B 5 1 v n xs) (hB : B ≤ w.heap.size) (h0 : 0 < B) (hn : n ≤ 1099511627776) (h1 : 0 ≤ p) (h2 : p < 128) :
    Calls Tryd.prog 40 #[v, .int .i64 p] w (EncPost p B n xs w) := by
  obtain ⟨i0, hi, hz0, hz1, hz2⟩ := info_parts u8Info
  have c0 := hF.at_ (i := 2) rfl
  have c1 := hF.at_ (i := 5) rfl
  have c2 := hF.at_ (i := 8) rfl
  have c3 := hF.at_ (i := 11) rfl
  have cf := hF.at_ (i := 1) rfl
  have hv : v.ownBlock ≠ some 0 := fun e => by have := (hown.lt _ e).1; omega
  have k6 : IntKind.i64.wrap 0 = 0 := by decide
  have k64 : IntKind.u8.wrap (p) = p := IntWalk.u8_in _ (by omega)
  have ko := or0 (b := p) (by omega) (by omega)
  have hL : Hid (encL p = [p]) := by
    unfold Hid encL
    rw [if_pos (by omega)]
  go_enter Tryd.func40, Tryd.ntmps40
  go_wp2_with fail
  refine wp_loop_rounds 4 ?_
  rw [rounds_succ]
  go_wp2_with fail
  rw [rounds_succ]
  go_wp2_with fail
  rw [rounds_succ]
  go_wp2_with fail
  rw [rounds_succ]
  go_wp2_with fail
  go_region_held3 (fun w' => w'.cell? ⟨0, 1, none⟩ = some (.int .u8 0))
    (first
      | go_keep
      | (rw [hgrow.cell_far _ (by first | (simp; done) | (simp; omega)) (Ne.symm hv)]; assumption))
    ((refine step_append_lies _ (by rfl) _ _ _ (by rfl) B 5 i0 _ 1 1 Tryd.underlying51 hi hz0 hz1 hz2 rfl (by omega) v n xs (by rfl) ((hown.alloc _).drew)
        ⟨w.heap.size, 0, none⟩ 1 1 [.int .u8 (p)] (by rfl) (by rfl) (World.news_of_block (cs := #[.int .u8 (p)]) (t := 5) (fr := (0, 0)) (heap_alloc_new w _)) (by simp [Value.oneCell'])
        (by omega) (by unfold maxLen; omega) (by omega) (by simp; omega) (w.heap.size + 1) (by simp) ?_; intro gg cap w1 hown1 hgrow hat hlt))
  have hb1 : Below B w w1 := (((Below.refl B w).alloc hB _).drew).grown hgrow (by simp; omega) (fun k hk => (hown.lt k hk).1)
  clear hgrow hat hlt hown hv
  go_wp2_with fail
  refine wp_loop_rounds 1 ?_
  rw [rounds_succ]
  go_wp2_with fail
  go_ret
  unfold EncPost
  rw [hL.out]
  exact ⟨_, rfl, by simpa [List.append_assoc, Nat.add_assoc] using hown1, hb1⟩

set_option maxHeartbeats 4000000 in
theorem encode1 (v : Value) (p : Int) (B n : Nat) (xs : List Value) (w : World) (hF : Forms w) (hown : w.ownsRow B 5 1 v n xs) (hB : B ≤ w.heap.size) (h0 : 0 < B) (hn : n ≤ 1099511627776) (h1 : 128 ≤ p) (h2 : p < 2048) :
    Calls Tryd.prog 40 #[v, .int .i64 p] w (EncPost p B n xs w) := by
  obtain ⟨i0, hi, hz0, hz1, hz2⟩ := info_parts u8Info
  have c1 := hF.at_ (i := 5) rfl
  have c2 := hF.at_ (i := 8) rfl
  have c3 := hF.at_ (i := 11) rfl
  have cf := hF.at_ (i := 4) rfl
  have hv : v.ownBlock ≠ some 0 := fun e => by have := (hown.lt _ e).1; omega
  have k6 : IntKind.i64.wrap 6 = 6 := by decide
  have k64 : IntKind.u8.wrap (p / 64) = p / 64 := IntWalk.u8_in _ (by omega)
  have ko := or192 (b := p / 64) (by omega) (by omega)
  have kf0 := follow_u8 (p)
  have hL : Hid (encL p = [192 + p / 64, 128 + p % 64]) := by
    unfold Hid encL
    rw [if_neg (by omega), if_pos (by omega)]
  go_enter Tryd.func40, Tryd.ntmps40
  go_wp2_with fail
  refine wp_loop_rounds 3 ?_
  rw [rounds_succ]
  go_wp2_with fail
  rw [rounds_succ]
  go_wp2_with fail
  rw [rounds_succ]
  go_wp2_with fail
  go_region_held3 (fun w' => w'.cell? ⟨0, 4, none⟩ = some (.int .u8 192))
    (first
      | go_keep
      | (rw [hgrow.cell_far _ (by first | (simp; done) | (simp; omega)) (Ne.symm hv)]; assumption))
    ((refine step_append_lies _ (by rfl) _ _ _ (by rfl) B 5 i0 _ 1 1 Tryd.underlying51 hi hz0 hz1 hz2 rfl (by omega) v n xs (by rfl) ((hown.alloc _).drew)
        ⟨w.heap.size, 0, none⟩ 1 1 [.int .u8 (192 + p / 64)] (by rfl) (by rfl) (World.news_of_block (cs := #[.int .u8 (192 + p / 64)]) (t := 5) (fr := (0, 0)) (heap_alloc_new w _)) (by simp [Value.oneCell'])
        (by omega) (by unfold maxLen; omega) (by omega) (by simp; omega) (w.heap.size + 1) (by simp) ?_; intro gg cap w1 hown1 hgrow hat hlt))
  have hb1 : Below B w w1 := (((Below.refl B w).alloc hB _).drew).grown hgrow (by simp; omega) (fun k hk => (hown.lt k hk).1)
  clear hgrow hat hlt hown hv
  go_wp2_with fail
  refine wp_loop_rounds 2 ?_
  rw [rounds_succ]
  go_wp2_with (at_builtin; refine wpList_append_own _ rfl _ _ 51 rfl B 5 i0 (.int .u8 0) 1 1 Tryd.underlying51 hi hz0 hz1 hz2 rfl (by decide) _ _ _ rfl (hown1.alloc _) ⟨w1.heap.size, 0, none⟩ 1 1 [.int .u8 (128 + p % 64)] rfl rfl ?c10 ?c20 ?c30 ?c40 ?c50 ?_)
  case c10 => exact cell_one_new w1 _ _
  case c20 => intro u hu; simp at hu; subst hu; rfl
  case c30 => unfold maxLen; omega
  case c40 => omega
  case c50 => have := hb1.size; simp; omega
  intro v2 w2 hown2 hg2 _
  have hb2 : Below B w w2 := (hb1.alloc (by have := hb1.size; omega) _).grown hg2 (by have := hb1.size; simp; omega) (fun k hk => (hown1.lt k hk).1)
  clear hg2
  go_wp2_with fail
  rw [rounds_succ]
  go_wp2_with fail
  go_ret
  unfold EncPost
  rw [hL.out]
  exact ⟨_, rfl, by simpa [List.append_assoc, Nat.add_assoc] using hown2, hb2⟩

set_option maxHeartbeats 4000000 in
theorem encode2 (v : Value) (p : Int) (B n : Nat) (xs : List Value) (w : World) (hF : Forms w) (hown : w.ownsRow B 5 1 v n xs) (hB : B ≤ w.heap.size) (h0 : 0 < B) (hn : n ≤ 1099511627776) (h1 : 2048 ≤ p) (h2 : p < 65536) :
    Calls Tryd.prog 40 #[v, .int .i64 p] w (EncPost p B n xs w) := by
  obtain ⟨i0, hi, hz0, hz1, hz2⟩ := info_parts u8Info
  have c2 := hF.at_ (i := 8) rfl
  have c3 := hF.at_ (i := 11) rfl
  have cf := hF.at_ (i := 7) rfl
  have hv : v.ownBlock ≠ some 0 := fun e => by have := (hown.lt _ e).1; omega
  have k6 : IntKind.i64.wrap 12 = 12 := by decide
  have k64 : IntKind.u8.wrap (p / 4096) = p / 4096 := IntWalk.u8_in _ (by omega)
  have ko := or224 (b := p / 4096) (by omega) (by omega)
  have kf0 := follow_u8 (p)
  have kf1 := follow_u8 (p / 64)
  have hL : Hid (encL p = [224 + p / 4096, 128 + p / 64 % 64, 128 + p % 64]) := by
    unfold Hid encL
    rw [if_neg (by omega), if_neg (by omega), if_pos (by omega)]
  go_enter Tryd.func40, Tryd.ntmps40
  go_wp2_with fail
  refine wp_loop_rounds 2 ?_
  rw [rounds_succ]
  go_wp2_with fail
  rw [rounds_succ]
  go_wp2_with fail
  go_region_held3 (fun w' => w'.cell? ⟨0, 7, none⟩ = some (.int .u8 224))
    (first
      | go_keep
      | (rw [hgrow.cell_far _ (by first | (simp; done) | (simp; omega)) (Ne.symm hv)]; assumption))
    ((refine step_append_lies _ (by rfl) _ _ _ (by rfl) B 5 i0 _ 1 1 Tryd.underlying51 hi hz0 hz1 hz2 rfl (by omega) v n xs (by rfl) ((hown.alloc _).drew)
        ⟨w.heap.size, 0, none⟩ 1 1 [.int .u8 (224 + p / 4096)] (by rfl) (by rfl) (World.news_of_block (cs := #[.int .u8 (224 + p / 4096)]) (t := 5) (fr := (0, 0)) (heap_alloc_new w _)) (by simp [Value.oneCell'])
        (by omega) (by unfold maxLen; omega) (by omega) (by simp; omega) (w.heap.size + 1) (by simp) ?_; intro gg cap w1 hown1 hgrow hat hlt))
  have hb1 : Below B w w1 := (((Below.refl B w).alloc hB _).drew).grown hgrow (by simp; omega) (fun k hk => (hown.lt k hk).1)
  clear hgrow hat hlt hown hv
  go_wp2_with fail
  refine wp_loop_rounds 3 ?_
  rw [rounds_succ]
  go_wp2_with (at_builtin; refine wpList_append_own _ rfl _ _ 51 rfl B 5 i0 (.int .u8 0) 1 1 Tryd.underlying51 hi hz0 hz1 hz2 rfl (by decide) _ _ _ rfl (hown1.alloc _) ⟨w1.heap.size, 0, none⟩ 1 1 [.int .u8 (128 + p / 64 % 64)] rfl rfl ?c10 ?c20 ?c30 ?c40 ?c50 ?_)
  case c10 => exact cell_one_new w1 _ _
  case c20 => intro u hu; simp at hu; subst hu; rfl
  case c30 => unfold maxLen; omega
  case c40 => omega
  case c50 => have := hb1.size; simp; omega
  intro v2 w2 hown2 hg2 _
  have hb2 : Below B w w2 := (hb1.alloc (by have := hb1.size; omega) _).grown hg2 (by have := hb1.size; simp; omega) (fun k hk => (hown1.lt k hk).1)
  clear hg2
  go_wp2_with fail
  rw [rounds_succ]
  go_wp2_with (at_builtin; refine wpList_append_own _ rfl _ _ 51 rfl B 5 i0 (.int .u8 0) 1 1 Tryd.underlying51 hi hz0 hz1 hz2 rfl (by decide) _ _ _ rfl (hown2.alloc _) ⟨w2.heap.size, 0, none⟩ 1 1 [.int .u8 (128 + p % 64)] rfl rfl ?c11 ?c21 ?c31 ?c41 ?c51 ?_)
  case c11 => exact cell_one_new w2 _ _
  case c21 => intro u hu; simp at hu; subst hu; rfl
  case c31 => unfold maxLen; omega
  case c41 => omega
  case c51 => have := hb2.size; simp; omega
  intro v3 w3 hown3 hg3 _
  have hb3 : Below B w w3 := (hb2.alloc (by have := hb2.size; omega) _).grown hg3 (by have := hb2.size; simp; omega) (fun k hk => (hown2.lt k hk).1)
  clear hg3
  go_wp2_with fail
  rw [rounds_succ]
  go_wp2_with fail
  go_ret
  unfold EncPost
  rw [hL.out]
  exact ⟨_, rfl, by simpa [List.append_assoc, Nat.add_assoc] using hown3, hb3⟩

set_option maxHeartbeats 4000000 in
theorem encode3 (v : Value) (p : Int) (B n : Nat) (xs : List Value) (w : World) (hF : Forms w) (hown : w.ownsRow B 5 1 v n xs) (hB : B ≤ w.heap.size) (h0 : 0 < B) (hn : n ≤ 1099511627776) (h1 : 65536 ≤ p) (h2 : p < 1114112) :
    Calls Tryd.prog 40 #[v, .int .i64 p] w (EncPost p B n xs w) := by
  obtain ⟨i0, hi, hz0, hz1, hz2⟩ := info_parts u8Info
  have c3 := hF.at_ (i := 11) rfl
  have cf := hF.at_ (i := 10) rfl
  have hv : v.ownBlock ≠ some 0 := fun e => by have := (hown.lt _ e).1; omega
  have k6 : IntKind.i64.wrap 18 = 18 := by decide
  have k64 : IntKind.u8.wrap (p / 262144) = p / 262144 := IntWalk.u8_in _ (by omega)
  have ko := or240 (b := p / 262144) (by omega) (by omega)
  have kf0 := follow_u8 (p)
  have kf1 := follow_u8 (p / 64)
  have kf2 := follow_u8 (p / 4096)
  have hL : Hid (encL p = [240 + p / 262144, 128 + p / 4096 % 64, 128 + p / 64 % 64, 128 + p % 64]) := by
    unfold Hid encL
    rw [if_neg (by omega), if_neg (by omega), if_neg (by omega)]
  go_enter Tryd.func40, Tryd.ntmps40
  go_wp2_with fail
  refine wp_loop_rounds 1 ?_
  rw [rounds_succ]
  go_wp2_with fail
  go_region_held3 (fun w' => w'.cell? ⟨0, 10, none⟩ = some (.int .u8 240))
    (first
      | go_keep
      | (rw [hgrow.cell_far _ (by first | (simp; done) | (simp; omega)) (Ne.symm hv)]; assumption))
    ((refine step_append_lies _ (by rfl) _ _ _ (by rfl) B 5 i0 _ 1 1 Tryd.underlying51 hi hz0 hz1 hz2 rfl (by omega) v n xs (by rfl) ((hown.alloc _).drew)
        ⟨w.heap.size, 0, none⟩ 1 1 [.int .u8 (240 + p / 262144)] (by rfl) (by rfl) (World.news_of_block (cs := #[.int .u8 (240 + p / 262144)]) (t := 5) (fr := (0, 0)) (heap_alloc_new w _)) (by simp [Value.oneCell'])
        (by omega) (by unfold maxLen; omega) (by omega) (by simp; omega) (w.heap.size + 1) (by simp) ?_; intro gg cap w1 hown1 hgrow hat hlt))
  have hb1 : Below B w w1 := (((Below.refl B w).alloc hB _).drew).grown hgrow (by simp; omega) (fun k hk => (hown.lt k hk).1)
  clear hgrow hat hlt hown hv
  go_wp2_with fail
  refine wp_loop_rounds 4 ?_
  rw [rounds_succ]
  go_wp2_with (at_builtin; refine wpList_append_own _ rfl _ _ 51 rfl B 5 i0 (.int .u8 0) 1 1 Tryd.underlying51 hi hz0 hz1 hz2 rfl (by decide) _ _ _ rfl (hown1.alloc _) ⟨w1.heap.size, 0, none⟩ 1 1 [.int .u8 (128 + p / 4096 % 64)] rfl rfl ?c10 ?c20 ?c30 ?c40 ?c50 ?_)
  case c10 => exact cell_one_new w1 _ _
  case c20 => intro u hu; simp at hu; subst hu; rfl
  case c30 => unfold maxLen; omega
  case c40 => omega
  case c50 => have := hb1.size; simp; omega
  intro v2 w2 hown2 hg2 _
  have hb2 : Below B w w2 := (hb1.alloc (by have := hb1.size; omega) _).grown hg2 (by have := hb1.size; simp; omega) (fun k hk => (hown1.lt k hk).1)
  clear hg2
  go_wp2_with fail
  rw [rounds_succ]
  go_wp2_with (at_builtin; refine wpList_append_own _ rfl _ _ 51 rfl B 5 i0 (.int .u8 0) 1 1 Tryd.underlying51 hi hz0 hz1 hz2 rfl (by decide) _ _ _ rfl (hown2.alloc _) ⟨w2.heap.size, 0, none⟩ 1 1 [.int .u8 (128 + p / 64 % 64)] rfl rfl ?c11 ?c21 ?c31 ?c41 ?c51 ?_)
  case c11 => exact cell_one_new w2 _ _
  case c21 => intro u hu; simp at hu; subst hu; rfl
  case c31 => unfold maxLen; omega
  case c41 => omega
  case c51 => have := hb2.size; simp; omega
  intro v3 w3 hown3 hg3 _
  have hb3 : Below B w w3 := (hb2.alloc (by have := hb2.size; omega) _).grown hg3 (by have := hb2.size; simp; omega) (fun k hk => (hown2.lt k hk).1)
  clear hg3
  go_wp2_with fail
  rw [rounds_succ]
  go_wp2_with (at_builtin; refine wpList_append_own _ rfl _ _ 51 rfl B 5 i0 (.int .u8 0) 1 1 Tryd.underlying51 hi hz0 hz1 hz2 rfl (by decide) _ _ _ rfl (hown3.alloc _) ⟨w3.heap.size, 0, none⟩ 1 1 [.int .u8 (128 + p % 64)] rfl rfl ?c12 ?c22 ?c32 ?c42 ?c52 ?_)
  case c12 => exact cell_one_new w3 _ _
  case c22 => intro u hu; simp at hu; subst hu; rfl
  case c32 => unfold maxLen; omega
  case c42 => omega
  case c52 => have := hb3.size; simp; omega
  intro v4 w4 hown4 hg4 _
  have hb4 : Below B w w4 := (hb3.alloc (by have := hb3.size; omega) _).grown hg4 (by have := hb3.size; simp; omega) (fun k hk => (hown3.lt k hk).1)
  clear hg4
  go_wp2_with fail
  rw [rounds_succ]
  go_wp2_with fail
  go_ret
  unfold EncPost
  rw [hL.out]
  exact ⟨_, rfl, by simpa [List.append_assoc, Nat.add_assoc] using hown4, hb4⟩

theorem encode_any (v : Value) (p : Int) (B n : Nat) (xs : List Value) (w : World) (hF : Forms w) (hown : w.ownsRow B 5 1 v n xs) (hB : B ≤ w.heap.size) (h0 : 0 < B) (hn : n ≤ 1099511627776) (h1 : 0 ≤ p) (h2 : p ≤ 1114111) :
    Calls Tryd.prog 40 #[v, .int .i64 p] w (EncPost p B n xs w) := by
  by_cases c1 : p < 128
  · exact encode0 v p B n xs w hF hown hB h0 hn h1 c1
  by_cases c2 : p < 2048
  · exact encode1 v p B n xs w hF hown hB h0 hn (by omega) c2
  by_cases c3 : p < 65536
  · exact encode2 v p B n xs w hF hown hB h0 hn (by omega) c3
  · exact encode3 v p B n xs w hF hown hB h0 hn (by omega) (by omega)
end Go.Proofs.YtmmigpncoojobacDoor
