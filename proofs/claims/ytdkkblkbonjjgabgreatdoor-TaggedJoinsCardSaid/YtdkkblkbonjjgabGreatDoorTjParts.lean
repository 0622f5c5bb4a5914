/- What Parts returns for the bytes that Join makes. Conditions: at most 20 fields of at most 50 bytes. -/
import Derived.Test.YtdkkblkbonjjgabGreatDoorTjPart
namespace Go.Proofs.YtdkkblkbonjjgabGreatDoor.Tj
open Go Go.RowKit Go.PlainAid TagN
theorem bt_nums {l : List Int} (h : ∀ b ∈ l, 0 ≤ b ∧ b ≤ 255) {i : Nat} (hi : i < l.length) : bt (strOfNums l) i = l.getD i 0 := by
  have hz : i < (strOfNums l).size := by rw [nums_size]; exact hi
  unfold bt
  rw [dif_pos hz]
  have e : (strOfNums l)[i] = UInt8.ofNat (l[i]).toNat := by
    show (strOfNums l).data[i] = _
    rw [← Array.getElem_toList]
    simp only [nums_list, List.getElem_map]
  have hm := h l[i] (List.getElem_mem hi)
  rw [e, List.getD_eq_getElem?_getD, List.getElem?_eq_getElem hi, Option.getD_some]
  have : (UInt8.ofNat (l[i]).toNat).toNat = (l[i]).toNat % 256 := rfl
  rw [this]
  omega
def Bytes (l : List Int) : Prop := ∀ b ∈ l, 0 ≤ b ∧ b ≤ 255
theorem Bytes.append {a b : List Int} (h : Bytes a) (k : Bytes b) : Bytes (a ++ b) := fun x hx => (List.mem_append.1 hx).elim (h x) (k x)
theorem bytesL_ok (s : ByteArray) : Bytes (bytesL s) := fun b hb => by
  obtain ⟨u, _, rfl⟩ := List.mem_map.1 hb
  have := u.toNat_lt
  omega
theorem partL_ok (n : Nat) (s : ByteArray) : Bytes (partL n s) := Bytes.append (putL_bytes n) (Bytes.append (putL_bytes _) (bytesL_ok s))
theorem bodyL_ok (l : List E) : Bytes (bodyL l) := fun b hb => by
  obtain ⟨e, _, h⟩ := List.mem_flatMap.1 hb
  exact partL_ok _ _ b h
theorem joinL_ok (l : List E) : Bytes (joinL l) := Bytes.append (putL_bytes _) (bodyL_ok l)
theorem has_mid {t a b c : List Int} (e : t = a ++ (b ++ c)) (h : Bytes t) : Has (strOfNums t) a.length b := by
  intro i hi
  have hl : a.length + i < t.length := by rw [e, List.length_append, List.length_append]; omega
  refine ⟨by rw [nums_size]; exact hl, ?_⟩
  rw [bt_nums h hl, e]
  rw [List.getD_eq_getElem?_getD, List.getElem?_append_right (by omega), Nat.add_sub_cancel_left, List.getElem?_append_left hi, ← List.getD_eq_getElem?_getD]
theorem extract_mid {t a c : List Int} {s : ByteArray} (e : t = a ++ (bytesL s ++ c)) : (strOfNums t).extract a.length (a.length + s.size) = s := by
  apply ByteArray.ext
  apply Array.ext'
  rw [e, ByteArray.data_extract, Array.toList_extract, nums_list]
  have h1 : (bytesL s).map (fun n => UInt8.ofNat n.toNat) = s.data.toList := by
    have := nums_list (bytesL s)
    rw [str_bytes] at this
    exact this.symm
  rw [List.map_append, List.map_append, h1]
  have hs : s.data.toList.length = s.size := rfl
  simp [List.extract, hs]
/-- the bytes ahead of a field -/
def pre (l : List E) (k : Nat) : List Int := putL l.length ++ bodyL (l.take k)
theorem pre_zero (l : List E) : pre l 0 = putL l.length := by simp [pre, bodyL]
theorem pre_all (l : List E) : pre l l.length = joinL l := by unfold pre joinL; rw [List.take_of_length_le (Nat.le_refl _)]
theorem pre_split {l : List E} {k : Nat} (h : k < l.length) : ∃ c, joinL l = pre l k ++ (putL (at_ l k).1.toNat ++ (putL (at_ l k).2.size ++ (bytesL (at_ l k).2 ++ c))) := by
  refine ⟨bodyL (l.drop (k + 1)), ?_⟩
  have e : at_ l k = l[k] := by simp [at_, List.getD, h]
  have h2 : l = l.take k ++ (l[k] :: l.drop (k + 1)) := by rw [← List.drop_eq_getElem_cons h, List.take_append_drop]
  have h3 : bodyL l = bodyL (l.take k) ++ (partL l[k].1.toNat l[k].2 ++ bodyL (l.drop (k + 1))) := by
    have h4 : bodyL (l.take k ++ (l[k] :: l.drop (k + 1))) = bodyL (l.take k) ++ (partL l[k].1.toNat l[k].2 ++ bodyL (l.drop (k + 1))) := by
      unfold bodyL
      rw [List.flatMap_append, List.flatMap_cons]
    rwa [← h2] at h4
  rw [e]
  unfold joinL pre
  rw [h3]
  simp [partL, numB, List.append_assoc]
theorem pre_succ {l : List E} {k : Nat} (h : k < l.length) : (pre l (k + 1)).length = (pre l k).length + (putL (at_ l k).1.toNat).length + (putL (at_ l k).2.size).length + (at_ l k).2.size := by
  unfold pre
  rw [bodyL_succ h]
  simp only [partL, numB, List.length_append, bytesL_len]
  omega
def cellsE (l : List E) : List Value := l.flatMap fun e => [.int .i64 e.1, .string e.2]
theorem cellsE_succ {l : List E} {k : Nat} (h : k < l.length) : cellsE (l.take (k + 1)) = cellsE (l.take k) ++ [.int .i64 (at_ l k).1, .string (at_ l k).2] := by
  have e : at_ l k = l[k] := by simp [at_, List.getD, h]
  unfold cellsE
  rw [List.take_succ_eq_append_getElem h, List.flatMap_append, e]
  simp
theorem join_len {l : List E} (hl : l.length ≤ 20) (hs : ∀ j, j < l.length → (at_ l j).2.size ≤ 50) (hn : Nums l) : ∀ k, k ≤ l.length → (pre l k).length ≤ 9 + k * 70
  | 0, _ => by
    rw [pre_zero]
    have := putL_len 8 l.length (by have : (128 : Nat) ^ (8 + 1) = 9223372036854775808 := by decide
                                    omega)
    omega
  | k + 1, hk => by
    have h1 := join_len hl hs hn k (by omega)
    have h2 := pre_succ (l := l) (k := k) (by omega)
    have h3 := hn k (by omega)
    have h4 := partL_len (n := (at_ l k).1.toNat) (s := (at_ l k).2) (by omega) (hs k (by omega))
    simp only [partL, numB, List.length_append, bytesL_len] at h4
    omega
set_option maxRecDepth 100000 in
set_option maxHeartbeats 8000000 in
theorem fields_ok (w W : World) (l : List E) (hl : l.length ≤ 20) (hs : ∀ j, j < l.length → (at_ l j).2.size ≤ 50) (hn : Nums l) (hc : chk 0 l = 0)
    (hS : ∀ o, o = Obj.cells #[fn15 w.heap.size (w.heap.size + 1)] 57 → W.heap.size = w.heap.size + 2 ∧ St w (W.alloc o) (strOfNums (joinL l)) 0 0 []) :
    Calls Tryz.prog 14 #[.pointer (some ⟨w.heap.size + 1, 0, none⟩), fn15 w.heap.size (w.heap.size + 1)] W fun e W' => e = .returned (.tuple #[]) ∧ St w W' (strOfNums (joinL l)) (joinL l).length l.length (cellsE l) := by
  obtain ⟨hW, hS0⟩ := hS _ rfl
  have HW := hide hW
  have S0 := hide hS0
  have HS := hide hs
  have HN := hide hn
  have HC := hide hc
  have hlen := join_len hl hs hn l.length (Nat.le_refl _)
  rw [pre_all] at hlen
  obtain ⟨S, hSS⟩ : ∃ S, strOfNums (joinL l) = S := ⟨_, rfl⟩
  have hsz : S.size = (joinL l).length := by rw [← hSS, nums_size]
  have HSS := hide hSS
  have HSZ := hide hsz
  have hs1 : S.size ≤ 100000 := by omega
  have H0 : Hid (Has S 0 (putL l.length)) := hide (by rw [← hSS]; exact has_mid (a := []) (b := putL l.length) (c := bodyL l) rfl (joinL_ok l))
  rw [hSS] at S0 ⊢
  clear hS hW hS0 hs hn hc hSS hsz hlen
  go_enter Tryz.func14, Tryz.ntmps14
  go_wp2_with fail
  refine (number_ok (w.heap.size + 1) S 0 l.length _ hs1 (by omega) H0.out S0.out.r).mono ?_
  rintro e w1 ⟨rfl, hr1, hg1⟩
  have S1 : Hid (St w w1 S (pre l 0).length 0 (cellsE (l.take 0))) := hide (by
    rw [pre_zero]
    rw [Nat.zero_add] at hr1
    exact S0.out.step hg1 hr1)
  have e3 : W.heap.size = w.heap.size + 2 := HW.out
  rw [e3]
  clear hr1 hg1 H0 S0 e3
  go_wp2_with fail
  go_loopw [4, 5] (fun b x wr => ∃ (k : Nat) (bb y : Int), k ≤ l.length ∧ x = .int .i64 y ∧ y = (l.length : Int) - (k : Int) ∧ b = .int .i64 bb ∧ Hid (chk bb (l.drop k) = 0) ∧ Hid (St w wr S (pre l k).length k (cellsE (l.take k)))) (fun _ x _ => (intOf x).toNat)
  case atStart => exact ⟨0, 0, l.length, Nat.zero_le _, rfl, by omega, rfl, hide (by rw [List.drop_zero]; exact HC.out), S1⟩
  case round =>
    obtain ⟨k, bb, y, hk, rfl, hy, rfl, HK, HST⟩ := hrel
    have c2 : wr.cell? ⟨w.heap.size + 1, 2, none⟩ = some (.int .i64 0) := HST.out.r.cell 2
    by_cases hlt : k < l.length
    · have hcd := chk_drop hlt bb
      have hnk := HN.out k hlt
      have hsk := HS.out k hlt
      have hps := pre_succ hlt
      have hcs := cellsE_succ hlt
      obtain ⟨c, hsp⟩ := pre_split hlt
      obtain ⟨x, hx⟩ : ∃ x, (at_ l k).1 = x := ⟨_, rfl⟩
      obtain ⟨s, hsx⟩ : ∃ s, (at_ l k).2 = s := ⟨_, rfl⟩
      rw [hx, hsx] at hsp hps hcs
      rw [hx] at hcd hnk
      rw [hsx] at hsk
      obtain ⟨m, rfl⟩ : ∃ m : Nat, x = (m : Int) := ⟨x.toNat, by omega⟩
      rw [Int.toNat_natCast] at hsp hps
      have hcn : cn (m : Int) bb = 0 ∧ chk (m : Int) (l.drop (k + 1)) = 0 := by
        have := HK.out
        rw [hcd] at this
        split at this
        · rename_i h; exact absurd this h
        · rename_i h; exact ⟨by simpa using h, this⟩
      have HCN := hide hcn
      have H1 : Hid (Has S (pre l k).length (putL m)) := hide (by rw [← HSS.out]; exact has_mid hsp (joinL_ok l))
      have H2 : Hid (Has S ((pre l k).length + (putL m).length) (putL s.size)) := hide (by
        rw [← HSS.out, ← List.length_append]
        exact has_mid (by rw [hsp, List.append_assoc]) (joinL_ok l))
      obtain ⟨q, hq⟩ : ∃ q, (pre l k).length + (putL m).length + (putL s.size).length = q := ⟨_, rfl⟩
      have EX : Hid (S.extract q (q + s.size) = s) := hide (by
        rw [← HSS.out, ← hq, ← List.length_append, ← List.length_append]
        exact extract_mid (by rw [hsp, List.append_assoc, List.append_assoc]))
      have LE : q + s.size ≤ S.size := by
        have := congrArg List.length hsp
        have e := HSZ.out
        simp only [List.length_append, bytesL_len] at this
        omega
      have PS : Hid ((pre l (k + 1)).length = q + s.size) := hide (by rw [hps, hq])
      have CS := hide hcs
      have HQ := hide hq
      obtain ⟨p, hp⟩ : ∃ p, (pre l k).length = p := ⟨_, rfl⟩
      rw [hp] at HST H1 H2 HQ
      have c1 : wr.cell? ⟨w.heap.size + 1, 1, none⟩ = some (.int .i64 (p : Int)) := HST.out.r.cell 1
      have y0 : 0 < y := by omega
      have y1 : y ≤ 20 := by omega
      have HY := hide hy
      have hm : m ≤ 9999 := by omega
      clear hcd hsp hps hcs hx hsx hcn hq hp hy HK hnk
      go_wp2_with fail
      refine (number_ok (w.heap.size + 1) S p m _ hs1 (by omega) H1.out HST.out.r).mono ?_
      rintro e w2 ⟨rfl, hr2, hg2⟩
      have S2 := hide (HST.out.step hg2 hr2)
      clear hr2 hg2 c1 c2 HST
      go_wp2_with fail
      refine (check_any (m : Int) bb _).mono ?_
      rintro e w3 ⟨rfl, rfl⟩
      rw [HCN.out.1]
      have hN : Holds (w2.alloc (Obj.cells #[.int .i64 (m : Int)] 3)) w2.heap.size 3 #[.int .i64 (m : Int)] := heap_alloc_new w2 _
      have HNN := hide hN
      have hN3 : w.heap.size + 3 ≤ w2.heap.size := by have := S2.out.fn.lt; omega
      clear hN
      go_wp2_with fail
      refine (part_ok w _ S (p + (putL m).length) k (cellsE (l.take k)) (m : Int) w2.heap.size s.size q hs1 (by omega) (S2.out.alloc _) HNN.out hN3 H2.out HQ.out LE).mono ?_
      rintro e w4 ⟨rfl, S4⟩
      have S5 : Hid (St w w4 S (pre l (k + 1)).length (k + 1) (cellsE (l.take (k + 1)))) := hide (by
        rw [PS.out, CS.out]
        rw [EX.out] at S4
        exact S4)
      clear S4
      go_wp2_with fail
      go_roundw
      case rel => exact ⟨k + 1, (m : Int), y - 1, by omega, by go_num, by have := HY.out; omega, rfl, hide HCN.out.2, S5⟩
      case measure => simp [intOf]; omega
    · obtain rfl : k = l.length := by omega
      obtain rfl : y = 0 := by omega
      clear hy HK
      go_wp2_with fail
      go_returns
      refine ⟨rfl, ?_⟩
      have := HST.out
      rw [pre_all, List.take_of_length_le (Nat.le_refl _)] at this
      exact this
theorem st_start (w : World) (S : ByteArray) : St w (((w.alloc (Obj.cells #[.slice none 0 0] 22)).alloc (Obj.cells (rd S 0) 54)).alloc (Obj.cells #[fn15 w.heap.size (w.heap.size + 1)] 57)) S 0 0 [] := by
  have h1 := heap_alloc_new w (Obj.cells #[.slice none 0 0] 22)
  have h2 := heap_alloc_new (w.alloc (Obj.cells #[.slice none 0 0] 22)) (Obj.cells (rd S 0) 54)
  have h3 := heap_alloc_new ((w.alloc (Obj.cells #[.slice none 0 0] 22)).alloc (Obj.cells (rd S 0) 54)) (Obj.cells #[fn15 w.heap.size (w.heap.size + 1)] 57)
  rw [World.size_alloc] at h2
  rw [World.size_alloc, World.size_alloc] at h3
  refine ⟨(((Below.refl _ _).alloc (Nat.le_refl _) _).alloc (by simp) _).alloc (by simp; omega) _, ⟨_, Holds.alloc (Holds.alloc h1 _) _, World.ownsRow_nil _ _ _ _⟩, Holds.alloc h2 _, h3⟩
set_option maxRecDepth 100000 in
set_option maxHeartbeats 8000000 in
theorem parts_ok (w : World) (l : List E) (hl : l.length ≤ 20) (hs : ∀ j, j < l.length → (at_ l j).2.size ≤ 50) (hn : Nums l) (hc : chk 0 l = 0) :
    Calls Tryz.prog 7 #[.string (strOfNums (joinL l))] w fun e W' => ∃ v, e = .returned (.tuple #[v, .int .i64 0, .int .i64 0]) ∧ W'.ownsRow (w.heap.size + 3) 27 2 v l.length (cellsE l) ∧ Below w.heap.size w W' := by
  have FO := hide (fun W hS => fields_ok w W l hl hs hn hc hS)
  have hlen := join_len hl hs hn l.length (Nat.le_refl _)
  rw [pre_all] at hlen
  obtain ⟨S, hSS⟩ : ∃ S, strOfNums (joinL l) = S := ⟨_, rfl⟩
  have hsz : S.size = (joinL l).length := by rw [← hSS, nums_size]
  rw [← hsz] at FO
  rw [hSS] at FO ⊢
  have hs1 : S.size ≤ 100000 := by omega
  clear hs hn hc hSS hsz hlen
  go_enter Tryz.func7, Tryz.ntmps7
  go_wp2_with fail
  refine (FO.out _ ?hS).mono ?_
  case hS =>
    intro o ho
    subst ho
    exact ⟨by simp, st_start w S⟩
  rintro e w1 ⟨rfl, S1⟩
  have HS1 := hide S1
  clear S1
  go_wp2_with fail
  refine (end_ok (w.heap.size + 1) S _ HS1.out.r).mono ?_
  rintro e w2 ⟨rfl, hr2, hg2⟩
  have S2 := hide (HS1.out.step hg2 hr2)
  have c2 : w2.cell? ⟨w.heap.size + 1, 2, none⟩ = some (.int .i64 0) := hr2.cell 2
  obtain ⟨v, hl2, ho2⟩ := S2.out.l
  obtain ⟨A', c', rfl⟩ := own_slice ho2
  have c0 : w2.cell? ⟨w.heap.size, 0, none⟩ = some (.slice A' l.length c') := hl2.cell 0
  have f0 := hl2.free 0
  have HO2 := hide ho2
  clear hr2 hg2 hl2 ho2
  go_wp2_with fail
  refine bodyPost_ret (v := .tuple #[.slice A' l.length c', .int .i64 0, .int .i64 0]) (by simp [results, Tryz.results7, go_sem, c0]) rfl ⟨_, rfl, ?_, ?_⟩
  · exact HO2.out.kept (put_grown _ ⟨w.heap.size, 0, none⟩ _) (.inr (fun e => by have := (HO2.out.lt _ e).1; dsimp only at this; omega))
  · exact S2.out.b.setCell (Nat.le_refl _) _
end Go.Proofs.YtdkkblkbonjjgabGreatDoor.Tj
