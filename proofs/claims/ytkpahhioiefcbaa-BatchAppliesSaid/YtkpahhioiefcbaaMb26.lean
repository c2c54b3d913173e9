/-
  batch: the document's one and Apply, walked: a change of pairs by rising keys.
-/
import Derived.Test.YtkpahhioiefcbaaMb25
namespace Go.Proofs.Ytkpahhioiefcbaa
open Go.RowKit
set_option linter.unusedVariables false
set_option maxRecDepth 100000
set_option linter.unusedSimpArgs false

/-- Pairs, as changes that do not go. -/
def kdCk : Kf Kv := ⟨ 44, 24, 3, 40, .agg #[.string ByteArray.empty, .string ByteArray.empty, .bool false], fun x => [.string x.1, .string x.2, .bool false]⟩
theorem kdCk_ok : kdCk.Ok := ⟨by kernel_rfl, by kernel_rfl, by kernel_rfl, by decide, by decide, by decide, fun _ => rfl, fun x u hu => by
  simp only [kdCk, List.mem_cons, List.not_mem_nil, or_false] at hu
  rcases hu with rfl | rfl | rfl <;> rfl⟩
theorem flC_ck (L : List Kv) : flC kdCk L = flC kdCh (L.map chK) := by
  unfold flC
  rw [List.flatMap_map]
  rfl
theorem FlO.ck {w wr : World} {v : Value} {L : List Kv} (h : FlO kdCk w wr v L) : FlO kdCh w wr v (L.map chK) := by
  have h2 : wr.ownsRow w.heap.size kdCk.T kdCk.k v L.length (flC kdCk L) := h
  rw [flC_ck] at h2
  show wr.ownsRow w.heap.size kdCk.T kdCk.k v (L.map chK).length (flC kdCh (L.map chK))
  rw [List.length_map]
  exact h2
theorem FlV.ck {w : World} {A : Option Addr} {C : Nat} {L : List Kv} (h : FlV kdCk w A C L) : FlV kdCh w A C (L.map chK) := by
  refine ⟨by rw [List.length_map]; exact h.le, by rw [List.length_map]; exact h.cap, fun h0 => ?_⟩
  rw [List.length_map] at h0
  obtain ⟨b, o, hA, hc⟩ := h.at' h0
  refine ⟨b, o, hA, fun i x hx j u hu => ?_⟩
  rw [List.getElem?_map] at hx
  cases hp : L[i]? with
  | none => rw [hp] at hx; cases hx
  | some p =>
    rw [hp] at hx
    injection hx with hx
    subst hx
    exact hc i p hp j u hu
def LstP (w : World) (l : List Kv) (e : Ending) (w' : World) : Prop := ∃ v, e = .returned v ∧ FlO kdCk w w' v l ∧ Ch (fun _ => False) w w'
/-- What stands of a list that is put into, so far. -/
def putPre (l : List Kv) (k : ByteArray) (v : ByteArray) : List Kv := (l.filter fun x => kLt x.1 k) ++ if l.any (fun y => kLt k y.1) then (k, v) :: l.filter (fun x => kLt k x.1) else []
theorem any_gt {l : List Kv} {k : ByteArray} (h : l.any (fun y => kLt k y.1) = false) : l.filter (fun x => kLt k x.1) = [] := List.filter_eq_nil_iff.2 fun x hx => by
  have := List.any_eq_false.1 h x hx
  simpa using this
theorem any_none {l : List Kv} {x : Kv} {k : ByteArray} (h : Rise (l ++ [x])) (q : kLt x.1 k = true ∨ x.1 = k) : l.any (fun y => kLt k y.1) = false := List.any_eq_false.2 fun y hy => by
  have h1 := (rise_app.1 h).2.2 y hy x (List.mem_singleton.2 rfl)
  have h2 : kLt y.1 k = true := by
    rcases q with q | q
    · exact kLt_trans h1 q
    · rw [← q]; exact h1
  rw [kLt_asymm h2]
  exact Bool.false_ne_true
theorem put_lt {l : List Kv} {x : Kv} {k : ByteArray} {v : ByteArray} (ha : l.any (fun y => kLt k y.1) = false) (q : kLt x.1 k = true) : putPre (l ++ [x]) k v = putPre l k v ++ [x] := by
  unfold putPre
  rw [List.any_append, ha, List.filter_append]
  simp [q, kLt_asymm q]
theorem put_eq {l : List Kv} {x : Kv} {k : ByteArray} {v : ByteArray} (ha : l.any (fun y => kLt k y.1) = false) (q : x.1 = k) : putPre (l ++ [x]) k v = putPre l k v := by
  unfold putPre
  rw [List.any_append, ha, List.filter_append]
  simp [q, kLt_irrefl]
theorem put_gt0 {l : List Kv} {x : Kv} {k : ByteArray} {v : ByteArray} (ha : l.any (fun y => kLt k y.1) = false) (q : kLt k x.1 = true) : putPre (l ++ [x]) k v = putPre l k v ++ [(k, v)] ++ [x] := by
  unfold putPre
  rw [List.any_append, ha, List.filter_append, List.filter_append, any_gt ha]
  simp [q, kLt_asymm q]
theorem put_gt1 {l : List Kv} {x : Kv} {k : ByteArray} {v : ByteArray} (ha : l.any (fun y => kLt k y.1) = true) (q : kLt k x.1 = true) : putPre (l ++ [x]) k v = putPre l k v ++ [x] := by
  unfold putPre
  rw [List.any_append, ha, List.filter_append, List.filter_append]
  simp [q, kLt_asymm q]
theorem put_end0 {l : List Kv} {k : ByteArray} {v : ByteArray} (ha : l.any (fun y => kLt k y.1) = false) : putPre l k v ++ [(k, v)] = putL13 l k v := by
  unfold putPre putL13
  rw [ha, any_gt ha]
  simp
theorem put_end1 {l : List Kv} {k : ByteArray} {v : ByteArray} (ha : l.any (fun y => kLt k y.1) = true) : putPre l k v = putL13 l k v := by
  unfold putPre putL13
  rw [ha]
  simp
theorem put_le (l : List Kv) (k : ByteArray) (v : ByteArray) : (putPre l k v).length ≤ l.length + l.length + 1 := by
  unfold putPre
  rw [List.length_append]
  split
  · rw [List.length_cons]
    exact Nat.le_trans (Nat.add_le_add (List.length_filter_le _ l) (Nat.succ_le_succ (List.length_filter_le _ l))) (by omega)
  · exact Nat.le_trans (Nat.add_le_add (List.length_filter_le _ l) (Nat.le_refl 0)) (by omega)
set_option maxHeartbeats 3200000 in
theorem rone_put (A : Option Addr) (C : Nat) (L : List Kv) (hRi : Rise L) (k v : ByteArray) (w : World) (h : FlV kdCk w A C L) (hL : L.length ≤ 400000) : Calls Try.prog 31 #[.slice A L.length C, .agg #[.string k, .string v, .bool false]] w (LstP w (putL13 L k v)) := by
  obtain ⟨w1, hw1⟩ : ∃ w1, w1 = w.alloc (.cells #[.string k, .string v, .bool false] 44) := ⟨_, rfl⟩
  obtain ⟨H, hH⟩ : ∃ H, H = w.heap.size := ⟨_, rfl⟩
  have hc1 : Ch (fun _ => False) w w1 := by rw [hw1]; exact (Ch.refl _ w).alloc _ _
  have hbk : w1.heap[H]? = some (.cells #[.string k, .string v, .bool false] 44 (0, 0)) := by rw [hw1, hH]; exact heap_alloc_new _ _
  have HKL : Hid (∀ V, Ch (fun _ => False) w1 V → V.cell? ⟨H, 0, none⟩ = some (.string k) ∧ V.cell? ⟨H, 1, none⟩ = some (.string v) ∧ V.cell? ⟨H, 2, none⟩ = some (.bool false)) := Lib.hid fun V hV => by
    have hb := (hV.block H (blk_lt hbk) (fun f => f)).trans hbk
    exact ⟨blk_cell hb, blk_cell hb, blk_cell hb⟩
  have HV := Lib.hid (h.gr hc1)
  have HC1 := Lib.hid hc1
  have HW := Lib.hid (And.intro hw1 hH)
  obtain ⟨n, hn⟩ : ∃ n, n = L.length := ⟨_, rfl⟩
  rw [← hn] at hL ⊢
  have HN := Lib.hid hn
  have n0 : (0 : Int) ≤ (n : Int) := Int.natCast_nonneg _
  have n1 : (n : Int) ≤ 400000 := by omega
  have HL := Lib.hid hL
  have k2 := (HKL.out w1 (Ch.refl _ _)).2.2
  have HRI := Lib.hid hRi
  clear hRi
  clear h hn hL hw1 hH hc1 hbk
  go_enter Try.func31, Try.ntmps31
  go_wp2_with (first
    | ((with_reducible refine wpList_isOp (.box 44 (.tmp 1)) rfl ?_); refine wpList_boxing _ w1 rfl 44 (.tmp 1) rfl #[.string k, .string v, .bool false] H rfl (by exact HW.out.2.symm) (by exact HW.out.1.symm) ?_)
    | fail)
  clear k2
  have HKL0 := Lib.hid HKL.out
  clear HKL
  go_loopw [5, 6, 7] (fun u f i wr => ∃ (j : Nat) (d : Bool), j ≤ n ∧ i = .int .i64 (j : Int) ∧ f = .bool d ∧ Hid (FlO kdCk w1 wr u (putPre (L.take j) k v)) ∧ Hid (d = (L.take j).any (fun y => kLt k y.1)) ∧ Hid (Ch (fun _ => False) w1 wr)) (fun u f i _ => n - (intOf i).toNat)
  case atStart => exact ⟨0, false, Nat.zero_le _, rfl, rfl, Lib.hid (FlO.start _ _ _), Lib.hid rfl, Lib.hid (Ch.refl _ _)⟩
  case round =>
    obtain ⟨j, d, hj, rfl, rfl, HO, HD, HC⟩ := hrel
    have j0 : (0 : Int) ≤ (j : Int) := Int.natCast_nonneg _
    have HPL : Hid ((putPre (L.take j) k v).length ≤ 800001) := Lib.hid (by have h1 := put_le (L.take j) k v; rw [List.length_take] at h1; have := HL.out; omega)
    by_cases hlt : j < n
    · have j1 : (j : Int) < (n : Int) := by omega
      have hv := HV.out.gr HC.out
      obtain ⟨b, o, rfl, hc⟩ := hv.at' (by rw [← HN.out]; omega)
      have hx : L[j]? = some (L[j]'(by rw [← HN.out]; exact hlt)) := List.getElem?_eq_getElem _
      obtain ⟨x, hxe⟩ : ∃ x, L[j]? = some x := ⟨_, hx⟩
      have hcx : ∀ V, Ch (fun _ => False) w1 V → (loadVar 44 ⟨b, o + j * 3, none⟩).run Try.prog V = .ok (.agg #[.string x.1, .string x.2, .bool false]) V := fun V hV => (HV.out.gr hV).load kdCk_ok hxe (Try.underlying44) rfl
      have hkx : ∀ V, Ch (fun _ => False) w1 V → V.cell? ⟨b, o + j * 3, none⟩ = some (.string x.1) ∧ V.cell? ⟨H, 0, none⟩ = some (.string k) ∧ V.cell? ⟨H, 1, none⟩ = some (.string v) := fun V hV => by
        refine ⟨?_, (HKL0.out V hV).1, (HKL0.out V hV).2.1⟩
        obtain ⟨b', o', hA, hc'⟩ := (HV.out.gr hV).at' (by rw [← HN.out]; omega)
        injection hA with hA
        injection hA with e1 e2
        subst e1 e2
        exact hc' j x hxe 0 _ rfl
      have c0 := (hkx wr HC.out).1
      have c1 := (hkx wr HC.out).2.1
      have c2 := (hkx wr HC.out).2.2
      have HKL := Lib.hid hkx
      have HLD0 := Lib.hid hcx
      have htk : L.take (j + 1) = L.take j ++ [x] := by rw [List.take_add_one, hxe]; rfl
      have HTK := Lib.hid htk
      have HCD1 := Lib.hid (HC.out.trans (Ch.refl (fun _ => False) wr).drew)
      have HCD := Lib.hid (HCD1.out.trans (Ch.refl (fun _ => False) wr.drew).drew)
      have HOD1 := Lib.hid (HO.out.gr (Ch.refl (fun _ => False) wr).drew)
      have HOD := Lib.hid (HOD1.out.gr (Ch.refl (fun _ => False) wr.drew).drew)
      have HRJ : Hid (Rise (L.take j ++ [x])) := Lib.hid (by rw [← htk]; have := HRI.out; rw [← List.take_append_drop (j + 1) L] at this; exact (rise_app.1 this).1)
      clear hc hx hxe hv htk hcx hkx
      by_cases q : kLt x.1 k = true
      · have hl3 : Op.bytesLess x.1.toList k.toList = true := q
        have hgt : Op.bytesLess k.toList x.1.toList = false := kLt_asymm (a := x.1) (b := k) q
        have heq : (x.1.toList == k.toList) = false := kEq_no.2 (kLt_ne q)
        have ha := any_none HRJ.out (Or.inl q)
        have hd : d = false := by rw [HD.out]; exact ha
        subst hd
        obtain ⟨g2, cap2, W2, hr, ho, hk, hg⟩ := FlO.app kdCk_ok (x := x) HOD.out (by have := HPL.out; omega) HCD.out.size
        have hsl := fl_slice kdCk_ok wr.drew.drew x
        have hkc := HCD.out.new (hk.mono fun i _ e => ((HOD.out).lo e).1)
        obtain ⟨M2, hM⟩ : ∃ M, M = (putPre (L.take j) k v).length + 1 := ⟨_, rfl⟩
        rw [← hM] at hr ho
        have HO2 := Lib.hid ho
        have HC2 := Lib.hid hkc
        have HR2 := Lib.hid hr
        have HSL2 := Lib.hid hsl
        clear hr ho hk hg hsl hkc hM
        have HO9 : Hid (FlO kdCk w1 W2 (.slice (some ⟨g2, 0, none⟩) M2 cap2) (putPre (L.take (j + 1)) k v)) := Lib.hid (by rw [HTK.out, put_lt ha q]; exact HO2.out)
        have HD9 : Hid (false = (L.take (j + 1)).any (fun y => kLt k y.1)) := Lib.hid (by rw [HTK.out, List.any_append, ha]; simp only [List.any_cons, List.any_nil, Bool.or_false, Bool.false_or]; exact hgt.symm)
        have HC9 := HC2
        have HLD := Lib.hid (HLD0.out wr.drew.drew HCD.out)
        clear ha q hgt
        go_wp2_with fail
        go_region
        go_wp2_with fail
        go_region
        go_wp2_with (first
          | ((with_reducible refine wpList_isOp (.load 44 (.tmp 47)) rfl ?_); refine wpList_loading _ rfl 44 (.tmp 47) rfl (.agg #[.string x.1, .string x.2, .bool false]) ⟨b, o + j * 3, none⟩ rfl (by exact HLD.out) ?_)
          | ((with_reducible refine wpList_isOp (.buildSlice 24 1 #[(0, .tmp 48)]) rfl ?_); refine wpList_sliceF _ _ rfl 24 0 1 (.tmp 48) rfl (.agg #[.string x.1, .string x.2, .bool false]) _ rfl (by exact HSL2.out) ?_)
          | (at_builtin; refine wpList_appF 24 _ rfl (.tmp 44) (.tmp 49) rfl rfl _ _ (.slice (some ⟨g2, 0, none⟩) M2 cap2) W2 rfl rfl (by exact HR2.out) ?_)
          | fail)
        go_roundw
        case rel => exact ⟨j + 1, _, by omega, by go_num, rfl, HO9, HD9, HC9⟩
        case measure => simp [intOf]; omega
      by_cases q2 : x.1 = k
      · have q := q2
        clear q2
        have hl3 : Op.bytesLess x.1.toList k.toList = false := by rw [q]; exact kLt_irrefl k
        have hgt : Op.bytesLess k.toList x.1.toList = false := by rw [q]; exact kLt_irrefl k
        have heq : (x.1.toList == k.toList) = true := kEq_iff.2 q
        have ha := any_none HRJ.out (Or.inr q)
        have hd : d = false := by rw [HD.out]; exact ha
        subst hd
        have HO9 : Hid (FlO kdCk w1 wr.drew.drew u5 (putPre (L.take (j + 1)) k v)) := Lib.hid (by rw [HTK.out, put_eq ha q]; exact HOD.out)
        have HD9 : Hid (false = (L.take (j + 1)).any (fun y => kLt k y.1)) := Lib.hid (by rw [HTK.out, List.any_append, ha]; simp only [List.any_cons, List.any_nil, Bool.or_false, Bool.false_or]; exact hgt.symm)
        have HC9 := HCD
        clear ha q hgt
        go_wp2_with fail
        go_region
        go_wp2_with fail
        go_region
        go_wp2_with fail
        go_roundw
        case rel => exact ⟨j + 1, _, by omega, by go_num, rfl, HO9, HD9, HC9⟩
        case measure => simp [intOf]; omega
      · have q3 : kLt k x.1 = true := kLt_of (fun e => q2 e.symm) (by simpa using q)
        clear q q2
        have q := q3
        clear q3
        have hl3 : Op.bytesLess x.1.toList k.toList = false := kLt_asymm (a := k) (b := x.1) q
        have hgt : Op.bytesLess k.toList x.1.toList = true := q
        have heq : (x.1.toList == k.toList) = false := kEq_no.2 fun e => kLt_ne q e.symm
        cases d
        · have ha : (L.take j).any (fun y => kLt k y.1) = false := HD.out.symm
          have ko := HOD1.out
          obtain ⟨g2, cap2, W2, hr, ho, hk, hg⟩ := FlO.app kdCk_ok (x := ((k, v) : Kv)) HOD1.out (by have := HPL.out; omega) HCD1.out.size
          have hsl := fl_slice kdCk_ok wr.drew ((k, v) : Kv)
          have hkc := HCD1.out.new (hk.mono fun i _ e => ((HOD1.out).lo e).1)
          obtain ⟨M2, hM⟩ : ∃ M, M = (putPre (L.take j) k v).length + 1 := ⟨_, rfl⟩
          rw [← hM] at hr ho
          have HO2 := Lib.hid ho
          have HC2 := Lib.hid hkc
          have HR2 := Lib.hid hr
          have HSL2 := Lib.hid hsl
          clear hr ho hk hg hsl hkc hM
          have HO2D := Lib.hid (HO2.out.gr (Ch.refl (fun _ => False) W2).drew)
          have HC2D := Lib.hid (HC2.out.trans (Ch.refl (fun _ => False) W2).drew)
          obtain ⟨g3, cap3, W3, hr, ho, hk, hg⟩ := FlO.app kdCk_ok (x := x) HO2D.out (by have := HPL.out; rw [List.length_append]; simp only [List.length_cons, List.length_nil]; omega) HC2D.out.size
          have hsl := fl_slice kdCk_ok W2.drew x
          have hkc := HC2D.out.new (hk.mono fun i _ e => ((HO2D.out).lo e).1)
          obtain ⟨M3, hM⟩ : ∃ M, M = (putPre (L.take j) k v ++ [(k, v)]).length + 1 := ⟨_, rfl⟩
          rw [← hM] at hr ho
          have HO3 := Lib.hid ho
          have HC3 := Lib.hid hkc
          have HR3 := Lib.hid hr
          have HSL3 := Lib.hid hsl
          clear hr ho hk hg hsl hkc hM
          have HO9 : Hid (FlO kdCk w1 W3 (.slice (some ⟨g3, 0, none⟩) M3 cap3) (putPre (L.take (j + 1)) k v)) := Lib.hid (by rw [HTK.out, put_gt0 ha q]; exact HO3.out)
          have HD9 : Hid (true = (L.take (j + 1)).any (fun y => kLt k y.1)) := Lib.hid (by rw [HTK.out, List.any_append, ha]; simp only [List.any_cons, List.any_nil, Bool.or_false, Bool.false_or]; exact hgt.symm)
          have HC9 := HC3
          have d0 := (HKL.out W2 HC2.out).1
          have d1 := (HKL.out W2 HC2.out).2.1
          have d2 := (HKL.out W2 HC2.out).2.2
          have HLD := Lib.hid (HLD0.out W2.drew HC2D.out)
          clear ha q hgt ko
          go_wp2_with fail
          go_region
          go_wp2_with (first
            | ((with_reducible refine wpList_isOp (.buildSlice 24 1 #[(0, .tmp 33)]) rfl ?_); refine wpList_sliceF _ _ rfl 24 0 1 (.tmp 33) rfl (.agg #[.string k, .string v, .bool false]) _ rfl (by exact HSL2.out) ?_)
            | (at_builtin; refine wpList_appF 24 _ rfl (.tmp 28) (.tmp 34) rfl rfl _ _ (.slice (some ⟨g2, 0, none⟩) M2 cap2) W2 rfl rfl (by exact HR2.out) ?_)
            | fail)
          go_region
          go_wp2_with (first
            | ((with_reducible refine wpList_isOp (.load 44 (.tmp 47)) rfl ?_); refine wpList_loading _ rfl 44 (.tmp 47) rfl (.agg #[.string x.1, .string x.2, .bool false]) ⟨b, o + j * 3, none⟩ rfl (by exact HLD.out) ?_)
            | ((with_reducible refine wpList_isOp (.buildSlice 24 1 #[(0, .tmp 48)]) rfl ?_); refine wpList_sliceF _ _ rfl 24 0 1 (.tmp 48) rfl (.agg #[.string x.1, .string x.2, .bool false]) _ rfl (by exact HSL3.out) ?_)
            | (at_builtin; refine wpList_appF 24 _ rfl (.tmp 44) (.tmp 49) rfl rfl _ _ (.slice (some ⟨g3, 0, none⟩) M3 cap3) W3 rfl rfl (by exact HR3.out) ?_)
            | fail)
          go_roundw
          case rel => exact ⟨j + 1, _, by omega, by go_num, rfl, HO9, HD9, HC9⟩
          case measure => simp [intOf]; omega
        · have ha : (L.take j).any (fun y => kLt k y.1) = true := HD.out.symm
          obtain ⟨g2, cap2, W2, hr, ho, hk, hg⟩ := FlO.app kdCk_ok (x := x) HOD.out (by have := HPL.out; omega) HCD.out.size
          have hsl := fl_slice kdCk_ok wr.drew.drew x
          have hkc := HCD.out.new (hk.mono fun i _ e => ((HOD.out).lo e).1)
          obtain ⟨M2, hM⟩ : ∃ M, M = (putPre (L.take j) k v).length + 1 := ⟨_, rfl⟩
          rw [← hM] at hr ho
          have HO2 := Lib.hid ho
          have HC2 := Lib.hid hkc
          have HR2 := Lib.hid hr
          have HSL2 := Lib.hid hsl
          clear hr ho hk hg hsl hkc hM
          have HO9 : Hid (FlO kdCk w1 W2 (.slice (some ⟨g2, 0, none⟩) M2 cap2) (putPre (L.take (j + 1)) k v)) := Lib.hid (by rw [HTK.out, put_gt1 ha q]; exact HO2.out)
          have HD9 : Hid (true = (L.take (j + 1)).any (fun y => kLt k y.1)) := Lib.hid (by rw [HTK.out, List.any_append, ha]; rfl)
          have HC9 := HC2
          have HLD := Lib.hid (HLD0.out wr.drew.drew HCD.out)
          clear ha q hgt
          go_wp2_with fail
          go_region
          go_wp2_with fail
          go_region
          go_wp2_with (first
            | ((with_reducible refine wpList_isOp (.load 44 (.tmp 47)) rfl ?_); refine wpList_loading _ rfl 44 (.tmp 47) rfl (.agg #[.string x.1, .string x.2, .bool false]) ⟨b, o + j * 3, none⟩ rfl (by exact HLD.out) ?_)
            | ((with_reducible refine wpList_isOp (.buildSlice 24 1 #[(0, .tmp 48)]) rfl ?_); refine wpList_sliceF _ _ rfl 24 0 1 (.tmp 48) rfl (.agg #[.string x.1, .string x.2, .bool false]) _ rfl (by exact HSL2.out) ?_)
            | (at_builtin; refine wpList_appF 24 _ rfl (.tmp 44) (.tmp 49) rfl rfl _ _ (.slice (some ⟨g2, 0, none⟩) M2 cap2) W2 rfl rfl (by exact HR2.out) ?_)
            | fail)
          go_roundw
          case rel => exact ⟨j + 1, _, by omega, by go_num, rfl, HO9, HD9, HC9⟩
          case measure => simp [intOf]; omega
    · have c1 := (HKL0.out wr HC.out).1
      have c2 := (HKL0.out wr HC.out).2.1
      have hje : j = n := by omega
      have j1 : ¬ (j : Int) < (n : Int) := by omega
      have he : L.take j = L := by rw [hje, HN.out, List.take_length]
      cases d
      · have ha : L.any (fun y => kLt k y.1) = false := by have := HD.out; rw [he] at this; exact this.symm
        obtain ⟨g2, cap2, W2, hr, ho, hk, hg⟩ := FlO.app kdCk_ok (x := ((k, v) : Kv)) HO.out (by have := HPL.out; omega) HC.out.size
        have hsl := fl_slice kdCk_ok wr ((k, v) : Kv)
        have hkc := HC.out.new (hk.mono fun i _ e => ((HO.out).lo e).1)
        obtain ⟨M2, hM⟩ : ∃ M, M = (putPre (L.take j) k v).length + 1 := ⟨_, rfl⟩
        rw [← hM] at hr ho
        have HO2 := Lib.hid ho
        have HC2 := Lib.hid hkc
        have HR2 := Lib.hid hr
        have HSL2 := Lib.hid hsl
        clear hr ho hk hg hsl hkc hM
        have HFIN : Hid (LstP w (putL13 L k v) (.returned (.slice (some ⟨g2, 0, none⟩) M2 cap2)) W2) := Lib.hid ⟨_, rfl, by
          have h := HO2.out
          rw [he, put_end0 ha] at h
          exact h.low HC1.out.size, HC1.out.trans HC2.out⟩
        clear hje he ha
        go_wp2_with (first
          | ((with_reducible refine wpList_isOp (.buildSlice 24 1 #[(0, .tmp 58)]) rfl ?_); refine wpList_sliceF _ _ rfl 24 0 1 (.tmp 58) rfl (.agg #[.string k, .string v, .bool false]) _ rfl (by exact HSL2.out) ?_)
          | (at_builtin; refine wpList_appF 24 _ rfl (.tmp 53) (.tmp 59) rfl rfl _ _ (.slice (some ⟨g2, 0, none⟩) M2 cap2) W2 rfl rfl (by exact HR2.out) ?_)
          | fail)
        go_ret
        exact HFIN.out
      · have ha : L.any (fun y => kLt k y.1) = true := by have := HD.out; rw [he] at this; exact this.symm
        have HFIN : Hid (LstP w (putL13 L k v) (.returned u5) wr) := Lib.hid ⟨_, rfl, by
          have h := HO.out
          rw [he, put_end1 ha] at h
          exact h.low HC1.out.size, HC1.out.trans HC.out⟩
        clear hje he ha
        go_wp2_with fail
        go_ret
        exact HFIN.out
#print axioms rone_put
set_option maxHeartbeats 1600000 in
theorem rone_del (A : Option Addr) (C : Nat) (L : List Kv) (k v : ByteArray) (w : World) (h : FlV kdCk w A C L) (hL : L.length ≤ 400000) : Calls Try.prog 31 #[.slice A L.length C, .agg #[.string k, .string v, .bool true]] w (LstP w (delL L k)) := by
  obtain ⟨w1, hw1⟩ : ∃ w1, w1 = w.alloc (.cells #[.string k, .string v, .bool true] 44) := ⟨_, rfl⟩
  obtain ⟨H, hH⟩ : ∃ H, H = w.heap.size := ⟨_, rfl⟩
  have hc1 : Ch (fun _ => False) w w1 := by rw [hw1]; exact (Ch.refl _ w).alloc _ _
  have hbk : w1.heap[H]? = some (.cells #[.string k, .string v, .bool true] 44 (0, 0)) := by rw [hw1, hH]; exact heap_alloc_new _ _
  have HKL : Hid (∀ V, Ch (fun _ => False) w1 V → V.cell? ⟨H, 0, none⟩ = some (.string k) ∧ V.cell? ⟨H, 1, none⟩ = some (.string v) ∧ V.cell? ⟨H, 2, none⟩ = some (.bool true)) := Lib.hid fun V hV => by
    have hb := (hV.block H (blk_lt hbk) (fun f => f)).trans hbk
    exact ⟨blk_cell hb, blk_cell hb, blk_cell hb⟩
  have HV := Lib.hid (h.gr hc1)
  have HC1 := Lib.hid hc1
  have HW := Lib.hid (And.intro hw1 hH)
  obtain ⟨n, hn⟩ : ∃ n, n = L.length := ⟨_, rfl⟩
  rw [← hn] at hL ⊢
  have HN := Lib.hid hn
  have n0 : (0 : Int) ≤ (n : Int) := Int.natCast_nonneg _
  have n1 : (n : Int) ≤ 400000 := by omega
  have HL := Lib.hid hL
  have k2 := (HKL.out w1 (Ch.refl _ _)).2.2
  clear h hn hL hw1 hH hc1 hbk
  go_enter Try.func31, Try.ntmps31
  go_wp2_with (first
    | ((with_reducible refine wpList_isOp (.box 44 (.tmp 1)) rfl ?_); refine wpList_boxing _ w1 rfl 44 (.tmp 1) rfl #[.string k, .string v, .bool true] H rfl (by exact HW.out.2.symm) (by exact HW.out.1.symm) ?_)
    | fail)
  clear k2
  have HKL0 := Lib.hid HKL.out
  clear HKL
  go_loopw [5, 6, 7] (fun u f i wr => ∃ j : Nat, j ≤ n ∧ i = .int .i64 (j : Int) ∧ f = .bool true ∧ Hid (FlO kdCk w1 wr u (delL (L.take j) k)) ∧ Hid (Ch (fun _ => False) w1 wr)) (fun u f i _ => n - (intOf i).toNat)
  case atStart => exact ⟨0, Nat.zero_le _, rfl, rfl, Lib.hid (FlO.start _ _ _), Lib.hid (Ch.refl _ _)⟩
  case round =>
    obtain ⟨j, hj, rfl, rfl, HO, HC⟩ := hrel
    have j0 : (0 : Int) ≤ (j : Int) := Int.natCast_nonneg _
    by_cases hlt : j < n
    · have j1 : (j : Int) < (n : Int) := by omega
      have hv := HV.out.gr HC.out
      obtain ⟨b, o, rfl, hc⟩ := hv.at' (by rw [← HN.out]; omega)
      have hx : L[j]? = some (L[j]'(by rw [← HN.out]; exact hlt)) := List.getElem?_eq_getElem _
      obtain ⟨x, hxe⟩ : ∃ x, L[j]? = some x := ⟨_, hx⟩
      have hcx : ∀ V, Ch (fun _ => False) w1 V → (loadVar 44 ⟨b, o + j * 3, none⟩).run Try.prog V = .ok (.agg #[.string x.1, .string x.2, .bool false]) V := fun V hV => (HV.out.gr hV).load kdCk_ok hxe (Try.underlying44) rfl
      have hkx : ∀ V, Ch (fun _ => False) w1 V → V.cell? ⟨b, o + j * 3, none⟩ = some (.string x.1) ∧ V.cell? ⟨H, 0, none⟩ = some (.string k) ∧ V.cell? ⟨H, 1, none⟩ = some (.string v) := fun V hV => by
        refine ⟨?_, (HKL0.out V hV).1, (HKL0.out V hV).2.1⟩
        obtain ⟨b', o', hA, hc'⟩ := (HV.out.gr hV).at' (by rw [← HN.out]; omega)
        injection hA with hA
        injection hA with e1 e2
        subst e1 e2
        exact hc' j x hxe 0 _ rfl
      have c0 := (hkx wr HC.out).1
      have c1 := (hkx wr HC.out).2.1
      have c2 := (hkx wr HC.out).2.2
      have HKL := Lib.hid hkx
      have HLD0 := Lib.hid hcx
      have htk : L.take (j + 1) = L.take j ++ [x] := by rw [List.take_add_one, hxe]; rfl
      have HTK := Lib.hid htk
      have HCD1 := Lib.hid (HC.out.trans (Ch.refl (fun _ => False) wr).drew)
      have HCD := Lib.hid (HCD1.out.trans (Ch.refl (fun _ => False) wr.drew).drew)
      have HOD1 := Lib.hid (HO.out.gr (Ch.refl (fun _ => False) wr).drew)
      have HOD := Lib.hid (HOD1.out.gr (Ch.refl (fun _ => False) wr.drew).drew)
      clear hc hx hxe hv htk hcx hkx
      cases q : kEq x.1 k
      · have t : (x.1.toList == k.toList) = false := q
        obtain ⟨g, cap, W2, hr, ho, hk, hg⟩ := FlO.app kdCk_ok (x := x) HOD.out (by have := HL.out; have := List.length_filter_le (fun y => !kEq y.1 k) (L.take j); rw [List.length_take] at this; unfold delL; omega) HCD.out.size
        have hsl := fl_slice kdCk_ok wr.drew.drew x
        have hnx : delL (L.take (j + 1)) k = delL (L.take j) k ++ [x] := by
          rw [HTK.out]
          unfold delL
          rw [List.filter_append]
          simp [q]
        rw [← hnx] at ho
        obtain ⟨M, hM⟩ : ∃ M, M = (delL (L.take j) k).length + 1 := ⟨_, rfl⟩
        rw [← hM] at hr ho
        have HO2 := Lib.hid ho
        have HC2 := Lib.hid (HCD.out.new (hk.mono fun i _ e => (HOD.out.lo e).1))
        have HR := Lib.hid hr
        have HSL := Lib.hid hsl
        have HLD := Lib.hid (HLD0.out wr.drew.drew HCD.out)
        clear hr ho hk hg hsl hnx hM q
        go_wp2_with fail
        go_region
        go_wp2_with fail
        go_region
        go_wp2_with (first
          | ((with_reducible refine wpList_isOp (.load 44 (.tmp 47)) rfl ?_); refine wpList_loading _ rfl 44 (.tmp 47) rfl (.agg #[.string x.1, .string x.2, .bool false]) ⟨b, o + j * 3, none⟩ rfl (by exact HLD.out) ?_)
          | ((with_reducible refine wpList_isOp (.buildSlice 24 1 #[(0, .tmp 48)]) rfl ?_); refine wpList_sliceF _ _ rfl 24 0 1 (.tmp 48) rfl (.agg #[.string x.1, .string x.2, .bool false]) _ rfl (by exact HSL.out) ?_)
          | (at_builtin; refine wpList_appF 24 _ rfl (.tmp 44) (.tmp 49) rfl rfl _ _ (.slice (some ⟨g, 0, none⟩) M cap) W2 rfl rfl (by exact HR.out) ?_)
          | fail)
        go_roundw
        case rel => exact ⟨j + 1, by omega, by go_num, rfl, HO2, HC2⟩
        case measure => simp [intOf]; omega
      · have t : (x.1.toList == k.toList) = true := q
        have hnx : delL (L.take (j + 1)) k = delL (L.take j) k := by
          rw [HTK.out]
          unfold delL
          rw [List.filter_append]
          simp [q]
        have HO2 : Hid (FlO kdCk w1 wr.drew.drew u5 (delL (L.take (j + 1)) k)) := Lib.hid (by rw [hnx]; exact HOD.out)
        clear hnx q
        go_wp2_with fail
        go_region
        go_wp2_with fail
        go_region
        go_wp2_with fail
        go_roundw
        case rel => exact ⟨j + 1, by omega, by go_num, rfl, HO2, HCD⟩
        case measure => simp [intOf]; omega
    · have hje : j = n := by omega
      have j1 : ¬ (j : Int) < (n : Int) := by omega
      have HFIN : Hid (LstP w (delL L k) (.returned u5) wr) := Lib.hid ⟨_, rfl, by
        have e : L.take j = L := by rw [hje, HN.out, List.take_length]
        have := HO.out
        rw [e] at this
        exact this.low HC1.out.size, HC1.out.trans HC.out⟩
      clear hje
      go_wp2
      go_ret
      exact HFIN.out
#print axioms rone_del
/-- A change of pairs by rising keys. -/
def oneP (L : List Kv) (x : ChV) : List Kv := if x.2.2 then delL L x.1 else putL13 L x.1 x.2.1
theorem rise_one {L : List Kv} (h : Rise L) (x : ChV) : Rise (oneP L x) := by
  unfold oneP
  split
  · exact rise_del h _
  · exact rise_put h _ _
theorem one_le {L : List Kv} (h : Rise L) (x : ChV) : (oneP L x).length ≤ L.length + 1 := by
  unfold oneP
  split
  · exact Nat.le_succ_of_le (List.length_filter_le _ _)
  · rw [putL_len h]
    split <;> omega
theorem rone_any (A : Option Addr) (C : Nat) (L : List Kv) (hRi : Rise L) (x : ChV) (w : World) (h : FlV kdCk w A C L) (hL : L.length ≤ 400000) : Calls Try.prog 31 #[.slice A L.length C, .agg #[.string x.1, .string x.2.1, .bool x.2.2]] w (LstP w (oneP L x)) := by
  obtain ⟨k, v, g⟩ := x
  cases g
  · exact rone_put A C L hRi k v w h hL
  · exact rone_del A C L k v w h hL
def appP (L : List Kv) (l : List ChV) : List Kv := l.foldl oneP L
theorem app_snoc (L : List Kv) (l : List ChV) (x : ChV) : appP L (l ++ [x]) = oneP (appP L l) x := by unfold appP; rw [List.foldl_append]; rfl
theorem app_app (L : List Kv) (l m : List ChV) : appP L (l ++ m) = appP (appP L l) m := by unfold appP; rw [List.foldl_append]
theorem rise_appP : ∀ {L : List Kv} (_ : Rise L) (l : List ChV), Rise (appP L l)
  | _, h, [] => h
  | _, h, x :: l => rise_appP (rise_one h x) l
theorem app_le : ∀ {L : List Kv} (_ : Rise L) (l : List ChV), (appP L l).length ≤ L.length + l.length
  | _, _, [] => Nat.le_refl _
  | L, h, x :: l => by
    have h1 := one_le h x
    have h2 : (appP (oneP L x) l).length ≤ _ := app_le (rise_one h x) l
    show (appP (oneP L x) l).length ≤ _
    rw [List.length_cons]
    omega
set_option maxHeartbeats 1600000 in
theorem rapply_any (A A2 : Option Addr) (C C2 : Nat) (L : List Kv) (l : List ChV) (hRi : Rise L) (w : World) (h : FlV kdCk w A C L) (h2 : FlV kdCh w A2 C2 l) (hL : L.length + l.length ≤ 1000) : Calls Try.prog 16 #[.slice A L.length C, .slice A2 l.length C2] w fun e w' => ∃ A' C', e = .returned (.slice A' (appP L l).length C') ∧ FlV kdCk w' A' C' (appP L l) ∧ Ch (fun _ => False) w w' := by
  have HV := Lib.hid h
  have HV2 := Lib.hid h2
  obtain ⟨n, hn⟩ : ∃ n, n = l.length := ⟨_, rfl⟩
  have HN := Lib.hid hn
  have n0 : (0 : Int) ≤ (n : Int) := Int.natCast_nonneg _
  have n1 : (n : Int) ≤ 1000 := by omega
  rw [← hn] at hL ⊢
  have HL := Lib.hid hL
  have HRI := Lib.hid hRi
  clear h h2 hL hRi hn
  go_enter Try.func16, Try.ntmps16
  go_wp2
  go_loopw [0, 5] (fun u i wr => ∃ j : Nat, j ≤ n ∧ i = .int .i64 (j : Int) ∧ Hid (∃ A' C', u = .slice A' (appP L (l.take j)).length C' ∧ FlV kdCk wr A' C' (appP L (l.take j))) ∧ Hid (Ch (fun _ => False) w wr)) (fun u i _ => n - (intOf i).toNat)
  case atStart => exact ⟨0, Nat.zero_le _, rfl, Lib.hid ⟨A, C, rfl, HV.out⟩, Lib.hid (Ch.refl _ _)⟩
  case round =>
    obtain ⟨j, hj, rfl, HO, HC⟩ := hrel
    have j0 : (0 : Int) ≤ (j : Int) := Int.natCast_nonneg _
    obtain ⟨A', C', hu, hv⟩ := HO.out
    subst hu
    have hap := app_le HRI.out (l.take j)
    rw [List.length_take] at hap
    by_cases hlt : j < n
    · have j1 : (j : Int) < (n : Int) := by omega
      obtain ⟨x, hxe⟩ : ∃ x, l[j]? = some x := ⟨_, List.getElem?_eq_getElem (by rw [← HN.out]; exact hlt)⟩
      have hv2 := HV2.out.gr HC.out
      obtain ⟨b, o, rfl, hc⟩ := hv2.at' (by rw [← HN.out]; omega)
      have HLD := Lib.hid (hv2.load kdCh_ok hxe (Try.underlying44) rfl)
      have HONE := Lib.hid (rone_any A' C' (appP L (l.take j)) (rise_appP HRI.out _) x wr hv (by have := HL.out; omega))
      have htk : l.take (j + 1) = l.take j ++ [x] := by rw [List.take_add_one, hxe]; rfl
      have HTK := Lib.hid htk
      clear hv2 hc hxe hv hap htk HO
      go_wp2_with (first
        | ((with_reducible refine wpList_isOp (.load 44 (.tmp 15)) rfl ?_); refine wpList_loading _ rfl 44 (.tmp 15) rfl (.agg #[.string x.1, .string x.2.1, .bool x.2.2]) ⟨b, o + j * 3, none⟩ rfl (by exact HLD.out) ?_)
        | fail)
      refine HONE.out.mono ?_
      rintro e w2 ⟨v, rfl, ho, hc2⟩
      obtain ⟨A3, C3, rfl⟩ := ho.len
      have hr := ho.read kdCk_ok (by have := ho.len; exact Nat.le_trans (one_le (rise_appP HRI.out _) x) (by have h1 := app_le HRI.out (l.take j); rw [List.length_take] at h1; have := HL.out; omega))
      have HO2 : Hid (∃ A' C', (Value.slice A3 (oneP (appP L (l.take j)) x).length C3) = .slice A' (appP L (l.take (j + 1))).length C' ∧ FlV kdCk w2 A' C' (appP L (l.take (j + 1)))) := Lib.hid ⟨A3, C3, by rw [HTK.out, app_snoc], by rw [HTK.out, app_snoc]; exact hr⟩
      have HC2 := Lib.hid (HC.out.trans hc2)
      clear ho hr hc2
      go_wp2_with fail
      go_roundw
      case rel => exact ⟨j + 1, by omega, by go_num, HO2, HC2⟩
      case measure => simp [intOf]; omega
    · have hje : j = n := by omega
      have j1 : ¬ (j : Int) < (n : Int) := by omega
      have he : l.take j = l := by rw [hje, HN.out, List.take_length]
      rw [he] at hv ⊢
      have HF := Lib.hid hv
      clear hje hv hap
      go_wp2
      go_ret
      exact ⟨A', C', rfl, HF.out, HC.out⟩
#print axioms rapply_any
end Go.Proofs.Ytkpahhioiefcbaa
