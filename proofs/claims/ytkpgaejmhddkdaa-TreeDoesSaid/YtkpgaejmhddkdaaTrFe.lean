/-
  The document's Put, walked.
-/
import Derived.Test.YtkpgaejmhddkdaaTrFd
namespace Go.Proofs.Ytkpgaejmhddkdaa
open Go.RowKit
set_option linter.unusedVariables false
set_option maxRecDepth 100000
set_option linter.unusedSimpArgs false

/-- What stands of a list that is put into, so far. -/
def putPre (l : List Kv) (k : ByteArray) (v : Int) : List Kv := (l.filter fun x => kLt x.1 k) ++ if l.any (fun y => kLt k y.1) then (k, v) :: l.filter (fun x => kLt k x.1) else []
theorem any_gt {l : List Kv} {k : ByteArray} (h : l.any (fun y => kLt k y.1) = false) : l.filter (fun x => kLt k x.1) = [] := List.filter_eq_nil_iff.2 fun x hx => by
  have := List.any_eq_false.1 h x hx
  simpa using this
theorem any_none {l : List Kv} {x : Kv} {k : ByteArray} (h : Rise (l ++ [x])) (q : kLt x.1 k = true ∨ x.1 = k) : l.any (fun y => kLt k y.1) = false := List.any_eq_false.2 fun y hy => by
  have h1 := (rise_app.1 h).2.2 y hy x (List.mem_singleton.2 rfl)
  have h2 : kLt y.1 k = true := by
    rcases q with q | q
    · exact kLt_trans h1 q
    · rw [← q]; exact h1
  rw [kLt_asymm h2]
  exact Bool.false_ne_true
theorem put_lt {l : List Kv} {x : Kv} {k : ByteArray} {v : Int} (ha : l.any (fun y => kLt k y.1) = false) (q : kLt x.1 k = true) : putPre (l ++ [x]) k v = putPre l k v ++ [x] := by
  unfold putPre
  rw [List.any_append, ha, List.filter_append]
  simp [q, kLt_asymm q]
theorem put_eq {l : List Kv} {x : Kv} {k : ByteArray} {v : Int} (ha : l.any (fun y => kLt k y.1) = false) (q : x.1 = k) : putPre (l ++ [x]) k v = putPre l k v := by
  unfold putPre
  rw [List.any_append, ha, List.filter_append]
  simp [q, kLt_irrefl]
theorem put_gt0 {l : List Kv} {x : Kv} {k : ByteArray} {v : Int} (ha : l.any (fun y => kLt k y.1) = false) (q : kLt k x.1 = true) : putPre (l ++ [x]) k v = putPre l k v ++ [(k, v)] ++ [x] := by
  unfold putPre
  rw [List.any_append, ha, List.filter_append, List.filter_append, any_gt ha]
  simp [q, kLt_asymm q]
theorem put_gt1 {l : List Kv} {x : Kv} {k : ByteArray} {v : Int} (ha : l.any (fun y => kLt k y.1) = true) (q : kLt k x.1 = true) : putPre (l ++ [x]) k v = putPre l k v ++ [x] := by
  unfold putPre
  rw [List.any_append, ha, List.filter_append, List.filter_append]
  simp [q, kLt_asymm q]
theorem put_end0 {l : List Kv} {k : ByteArray} {v : Int} (ha : l.any (fun y => kLt k y.1) = false) : putPre l k v ++ [(k, v)] = putL13 l k v := by
  unfold putPre putL13
  rw [ha, any_gt ha]
  simp
theorem put_end1 {l : List Kv} {k : ByteArray} {v : Int} (ha : l.any (fun y => kLt k y.1) = true) : putPre l k v = putL13 l k v := by
  unfold putPre putL13
  rw [ha]
  simp
theorem put_le (l : List Kv) (k : ByteArray) (v : Int) : (putPre l k v).length ≤ l.length + l.length + 1 := by
  unfold putPre
  rw [List.length_append]
  split
  · rw [List.length_cons]
    exact Nat.le_trans (Nat.add_le_add (List.length_filter_le _ l) (Nat.succ_le_succ (List.length_filter_le _ l))) (by omega)
  · exact Nat.le_trans (Nat.add_le_add (List.length_filter_le _ l) (Nat.le_refl 0)) (by omega)
set_option maxHeartbeats 3200000 in
theorem rput_any (A : Option Addr) (C : Nat) (L : List Kv) (hRi : Rise L) (k : ByteArray) (v : Int) (w : World) (h : FlV kdKv w A C L) (hL : L.length ≤ 400000) : Calls Try.prog 13 #[.slice A L.length C, .string k, .int .i64 v] w (TldP w (putL13 L k v)) := by
  have HV := Lib.hid h
  obtain ⟨n, hn⟩ : ∃ n, n = L.length := ⟨_, rfl⟩
  rw [← hn] at hL ⊢
  have HN := Lib.hid hn
  have n0 : (0 : Int) ≤ (n : Int) := Int.natCast_nonneg _
  have n1 : (n : Int) ≤ 400000 := by omega
  have HL := Lib.hid hL
  have HRI := Lib.hid hRi
  clear h hn hL hRi
  go_enter Try.func13, Try.ntmps13
  go_wp2
  go_loopw [7, 8, 9] (fun u f i wr => ∃ (j : Nat) (d : Bool), j ≤ n ∧ i = .int .i64 (j : Int) ∧ f = .bool d ∧ Hid (FlO kdKv w wr u (putPre (L.take j) k v)) ∧ Hid (d = (L.take j).any (fun y => kLt k y.1)) ∧ Hid (Ch (fun _ => False) w wr)) (fun u f i _ => n - (intOf i).toNat)
  case atStart => exact ⟨0, false, Nat.zero_le _, rfl, rfl, Lib.hid (FlO.start _ _ _), Lib.hid rfl, Lib.hid (Ch.refl _ _)⟩
  case round =>
    obtain ⟨j, d, hj, rfl, rfl, HO, HD, HC⟩ := hrel
    have j0 : (0 : Int) ≤ (j : Int) := Int.natCast_nonneg _
    have HPL : Hid ((putPre (L.take j) k v).length ≤ 800001) := Lib.hid (by have h1 := put_le (L.take j) k v; rw [List.length_take] at h1; have := HL.out; omega)
    by_cases hlt : j < n
    · have j1 : (j : Int) < (n : Int) := by omega
      have hv := HV.out.gr HC.out
      obtain ⟨b, o, rfl, hc⟩ := hv.at' (by rw [← HN.out]; omega)
      have hx : L[j]? = some (L[j]'(by rw [← HN.out]; exact hlt)) := List.getElem?_eq_getElem _
      obtain ⟨x, hxe⟩ : ∃ x, L[j]? = some x := ⟨_, hx⟩
      have hcx : ∀ V, Ch (fun _ => False) w V → V.cell? ⟨b, o + j * 2, none⟩ = some (.string x.1) ∧ (loadVar 48 ⟨b, o + j * 2, none⟩).run Try.prog V = .ok (.agg #[.string x.1, .int .i64 x.2]) V := fun V hV => by
        have hvV := HV.out.gr hV
        refine ⟨?_, hvV.load kdKv_ok hxe (Try.underlying48) rfl⟩
        obtain ⟨b', o', hA, hc'⟩ := hvV.at' (by rw [← HN.out]; omega)
        injection hA with hA
        injection hA with e1 e2
        subst e1 e2
        exact hc' j x hxe 0 _ rfl
      have c0 := (hcx wr HC.out).1
      have HLD0 := Lib.hid hcx
      have htk : L.take (j + 1) = L.take j ++ [x] := by rw [List.take_add_one, hxe]; rfl
      have HTK := Lib.hid htk
      have HRJ : Hid (Rise (L.take j ++ [x])) := Lib.hid (by rw [← htk]; have := HRI.out; rw [← List.take_append_drop (j + 1) L] at this; exact (rise_app.1 this).1)
      clear hc hx hxe hv htk hcx
      by_cases q : kLt x.1 k = true
      · have hl3 : Op.bytesLess x.1.toList k.toList = true := q
        have hgt : Op.bytesLess k.toList x.1.toList = false := kLt_asymm (a := x.1) (b := k) q
        have heq : (x.1.toList == k.toList) = false := kEq_no.2 (kLt_ne q)
        have ha := any_none HRJ.out (Or.inl q)
        have hd : d = false := by rw [HD.out]; exact ha
        subst hd
        obtain ⟨g2, cap2, W2, hr, ho, hk, hg⟩ := FlO.app kdKv_ok (x := x) HO.out (by have := HPL.out; omega) HC.out.size
        have hsl := fl_slice kdKv_ok wr x
        have hkc := HC.out.new (hk.mono fun i _ e => ((HO.out).lo e).1)
        obtain ⟨M2, hM⟩ : ∃ M, M = (putPre (L.take j) k v).length + 1 := ⟨_, rfl⟩
        have hMl : M2 = (putPre (L.take j) k v ++ [x]).length := by rw [List.length_append, hM]; rfl
        rw [← hM] at hr ho
        have HMl2 := Lib.hid hMl
        have HO2 := Lib.hid ho
        have HC2 := Lib.hid hkc
        have HR2 := Lib.hid hr
        have HSL2 := Lib.hid hsl
        clear hr ho hk hg hsl hkc hM hMl
        have HO9 : Hid (FlO kdKv w W2 (.slice (some ⟨g2, 0, none⟩) M2 cap2) (putPre (L.take (j + 1)) k v)) := Lib.hid (by rw [HTK.out, put_lt ha q]; exact HO2.out)
        have HD9 : Hid (false = (L.take (j + 1)).any (fun y => kLt k y.1)) := Lib.hid (by rw [HTK.out, List.any_append, ha]; simp only [List.any_cons, List.any_nil, Bool.or_false, Bool.false_or]; exact hgt.symm)
        have HC9 := HC2
        clear ha q hgt
        have HLD := Lib.hid (HLD0.out wr HC.out).2
        go_wp2_with (first
          | ((with_reducible refine wpList_isOp (.load 48 (.tmp 43)) rfl ?_); refine wpList_loading _ rfl 48 (.tmp 43) rfl (.agg #[.string x.1, .int .i64 x.2]) ⟨b, o + j * 2, none⟩ rfl (by exact HLD.out) ?_)
          | ((with_reducible refine wpList_isOp (.buildSlice 29 1 #[(0, .tmp 44)]) rfl ?_); refine wpList_sliceF _ _ rfl 29 0 1 (.tmp 44) rfl (.agg #[.string x.1, .int .i64 x.2]) _ rfl (by exact HSL2.out) ?_)
          | (at_builtin; refine wpList_appF 29 _ rfl (.tmp 40) (.tmp 45) rfl rfl _ _ (.slice (some ⟨g2, 0, none⟩) M2 cap2) W2 rfl rfl (by exact HR2.out) ?_)
          | fail)
        go_roundw
        case rel => exact ⟨j + 1, _, by omega, by go_num, rfl, HO9, HD9, HC9⟩
        case measure => simp [intOf]; omega
      by_cases q2 : x.1 = k
      · have q := q2
        clear q2
        have hl3 : Op.bytesLess x.1.toList k.toList = false := by rw [q]; exact kLt_irrefl k
        have hgt : Op.bytesLess k.toList x.1.toList = false := by rw [q]; exact kLt_irrefl k
        have heq : (x.1.toList == k.toList) = true := kEq_iff.2 q
        have ha := any_none HRJ.out (Or.inr q)
        have hd : d = false := by rw [HD.out]; exact ha
        subst hd
        have HO9 : Hid (FlO kdKv w wr u7 (putPre (L.take (j + 1)) k v)) := Lib.hid (by rw [HTK.out, put_eq ha q]; exact HO.out)
        have HD9 : Hid (false = (L.take (j + 1)).any (fun y => kLt k y.1)) := Lib.hid (by rw [HTK.out, List.any_append, ha]; simp only [List.any_cons, List.any_nil, Bool.or_false, Bool.false_or]; exact hgt.symm)
        have HC9 := HC
        clear ha q hgt
        go_wp2_with fail
        go_roundw
        case rel => exact ⟨j + 1, _, by omega, by go_num, rfl, HO9, HD9, HC9⟩
        case measure => simp [intOf]; omega
      · have q3 : kLt k x.1 = true := kLt_of (fun e => q2 e.symm) (by simpa using q)
        clear q q2
        have q := q3
        clear q3
        have hl3 : Op.bytesLess x.1.toList k.toList = false := kLt_asymm (a := k) (b := x.1) q
        have hgt : Op.bytesLess k.toList x.1.toList = true := q
        have heq : (x.1.toList == k.toList) = false := kEq_no.2 fun e => kLt_ne q e.symm
        cases d
        · have ha : (L.take j).any (fun y => kLt k y.1) = false := HD.out.symm
          obtain ⟨g2, cap2, W2, hr, ho, hk, hg⟩ := FlO.app kdKv_ok (x := ((k, v) : Kv)) HO.out (by have := HPL.out; omega) HC.out.size
          have hsl := fl_slice kdKv_ok wr ((k, v) : Kv)
          have hkc := HC.out.new (hk.mono fun i _ e => ((HO.out).lo e).1)
          obtain ⟨M2, hM⟩ : ∃ M, M = (putPre (L.take j) k v).length + 1 := ⟨_, rfl⟩
          have hMl : M2 = (putPre (L.take j) k v ++ [((k, v) : Kv)]).length := by rw [List.length_append, hM]; rfl
          rw [← hM] at hr ho
          have HMl2 := Lib.hid hMl
          have HO2 := Lib.hid ho
          have HC2 := Lib.hid hkc
          have HR2 := Lib.hid hr
          have HSL2 := Lib.hid hsl
          clear hr ho hk hg hsl hkc hM hMl
          obtain ⟨g3, cap3, W3, hr, ho, hk, hg⟩ := FlO.app kdKv_ok (x := x) HO2.out (by have := HPL.out; rw [List.length_append]; simp only [List.length_cons, List.length_nil]; omega) HC2.out.size
          have hsl := fl_slice kdKv_ok W2 x
          have hkc := HC2.out.new (hk.mono fun i _ e => ((HO2.out).lo e).1)
          obtain ⟨M3, hM⟩ : ∃ M, M = (putPre (L.take j) k v ++ [(k, v)]).length + 1 := ⟨_, rfl⟩
          have hMl : M3 = (putPre (L.take j) k v ++ [(k, v)] ++ [x]).length := by rw [List.length_append, hM]; rfl
          rw [← hM] at hr ho
          have HMl3 := Lib.hid hMl
          have HO3 := Lib.hid ho
          have HC3 := Lib.hid hkc
          have HR3 := Lib.hid hr
          have HSL3 := Lib.hid hsl
          clear hr ho hk hg hsl hkc hM hMl
          have HO9 : Hid (FlO kdKv w W3 (.slice (some ⟨g3, 0, none⟩) M3 cap3) (putPre (L.take (j + 1)) k v)) := Lib.hid (by rw [HTK.out, put_gt0 ha q]; exact HO3.out)
          have HD9 : Hid (true = (L.take (j + 1)).any (fun y => kLt k y.1)) := Lib.hid (by rw [HTK.out, List.any_append, ha]; simp only [List.any_cons, List.any_nil, Bool.or_false, Bool.false_or]; exact hgt.symm)
          have HC9 := HC3
          clear ha q hgt
          have c2 := (HLD0.out W2 HC2.out).1
          have HLD := Lib.hid (HLD0.out W2 HC2.out).2
          go_wp2_with (first
            | ((with_reducible refine wpList_isOp (.load 48 (.tmp 43)) rfl ?_); refine wpList_loading _ rfl 48 (.tmp 43) rfl (.agg #[.string x.1, .int .i64 x.2]) ⟨b, o + j * 2, none⟩ rfl (by exact HLD.out) ?_)
            | ((with_reducible refine wpList_isOp (.buildSlice 29 1 #[(0, .tmp 30)]) rfl ?_); refine wpList_sliceF _ _ rfl 29 0 1 (.tmp 30) rfl (.agg #[.string k, .int .i64 v]) _ rfl (by exact HSL2.out) ?_)
            | (at_builtin; refine wpList_appF 29 _ rfl (.tmp 27) (.tmp 31) rfl rfl _ _ (.slice (some ⟨g2, 0, none⟩) M2 cap2) W2 rfl rfl (by exact HR2.out) ?_)
            | ((with_reducible refine wpList_isOp (.buildSlice 29 1 #[(0, .tmp 44)]) rfl ?_); refine wpList_sliceF _ _ rfl 29 0 1 (.tmp 44) rfl (.agg #[.string x.1, .int .i64 x.2]) _ rfl (by exact HSL3.out) ?_)
            | (at_builtin; refine wpList_appF 29 _ rfl (.tmp 40) (.tmp 45) rfl rfl _ _ (.slice (some ⟨g3, 0, none⟩) M3 cap3) W3 rfl rfl (by exact HR3.out) ?_)
            | fail)
          go_roundw
          case rel => exact ⟨j + 1, _, by omega, by go_num, rfl, HO9, HD9, HC9⟩
          case measure => simp [intOf]; omega
        · have ha : (L.take j).any (fun y => kLt k y.1) = true := HD.out.symm
          obtain ⟨g2, cap2, W2, hr, ho, hk, hg⟩ := FlO.app kdKv_ok (x := x) HO.out (by have := HPL.out; omega) HC.out.size
          have hsl := fl_slice kdKv_ok wr x
          have hkc := HC.out.new (hk.mono fun i _ e => ((HO.out).lo e).1)
          obtain ⟨M2, hM⟩ : ∃ M, M = (putPre (L.take j) k v).length + 1 := ⟨_, rfl⟩
          have hMl : M2 = (putPre (L.take j) k v ++ [x]).length := by rw [List.length_append, hM]; rfl
          rw [← hM] at hr ho
          have HMl2 := Lib.hid hMl
          have HO2 := Lib.hid ho
          have HC2 := Lib.hid hkc
          have HR2 := Lib.hid hr
          have HSL2 := Lib.hid hsl
          clear hr ho hk hg hsl hkc hM hMl
          have HO9 : Hid (FlO kdKv w W2 (.slice (some ⟨g2, 0, none⟩) M2 cap2) (putPre (L.take (j + 1)) k v)) := Lib.hid (by rw [HTK.out, put_gt1 ha q]; exact HO2.out)
          have HD9 : Hid (true = (L.take (j + 1)).any (fun y => kLt k y.1)) := Lib.hid (by rw [HTK.out, List.any_append, ha]; rfl)
          have HC9 := HC2
          clear ha q hgt
          have HLD := Lib.hid (HLD0.out wr HC.out).2
          go_wp2_with (first
            | ((with_reducible refine wpList_isOp (.load 48 (.tmp 43)) rfl ?_); refine wpList_loading _ rfl 48 (.tmp 43) rfl (.agg #[.string x.1, .int .i64 x.2]) ⟨b, o + j * 2, none⟩ rfl (by exact HLD.out) ?_)
            | ((with_reducible refine wpList_isOp (.buildSlice 29 1 #[(0, .tmp 44)]) rfl ?_); refine wpList_sliceF _ _ rfl 29 0 1 (.tmp 44) rfl (.agg #[.string x.1, .int .i64 x.2]) _ rfl (by exact HSL2.out) ?_)
            | (at_builtin; refine wpList_appF 29 _ rfl (.tmp 40) (.tmp 45) rfl rfl _ _ (.slice (some ⟨g2, 0, none⟩) M2 cap2) W2 rfl rfl (by exact HR2.out) ?_)
            | fail)
          go_roundw
          case rel => exact ⟨j + 1, _, by omega, by go_num, rfl, HO9, HD9, HC9⟩
          case measure => simp [intOf]; omega
    · have hje : j = n := by omega
      have j1 : ¬ (j : Int) < (n : Int) := by omega
      have he : L.take j = L := by rw [hje, HN.out, List.take_length]
      cases d
      · have ha : L.any (fun y => kLt k y.1) = false := by have := HD.out; rw [he] at this; exact this.symm
        obtain ⟨g2, cap2, W2, hr, ho, hk, hg⟩ := FlO.app kdKv_ok (x := ((k, v) : Kv)) HO.out (by have := HPL.out; omega) HC.out.size
        have hsl := fl_slice kdKv_ok wr ((k, v) : Kv)
        have hkc := HC.out.new (hk.mono fun i _ e => ((HO.out).lo e).1)
        obtain ⟨M2, hM⟩ : ∃ M, M = (putPre (L.take j) k v).length + 1 := ⟨_, rfl⟩
        have hMl : M2 = (putPre (L.take j) k v ++ [((k, v) : Kv)]).length := by rw [List.length_append, hM]; rfl
        rw [← hM] at hr ho
        have HMl2 := Lib.hid hMl
        have HO2 := Lib.hid ho
        have HC2 := Lib.hid hkc
        have HR2 := Lib.hid hr
        have HSL2 := Lib.hid hsl
        clear hr ho hk hg hsl hkc hM hMl
        have HFIN : Hid (TldP w (putL13 L k v) (.returned (.slice (some ⟨g2, 0, none⟩) M2 cap2)) W2) := Lib.hid ⟨_, rfl, by
          have h := HO2.out
          rw [he, put_end0 ha] at h
          exact h, HC2.out⟩
        clear hje he ha
        go_wp2_with (first
          | ((with_reducible refine wpList_isOp (.buildSlice 29 1 #[(0, .tmp 52)]) rfl ?_); refine wpList_sliceF _ _ rfl 29 0 1 (.tmp 52) rfl (.agg #[.string k, .int .i64 v]) _ rfl (by exact HSL2.out) ?_)
          | (at_builtin; refine wpList_appF 29 _ rfl (.tmp 49) (.tmp 53) rfl rfl _ _ (.slice (some ⟨g2, 0, none⟩) M2 cap2) W2 rfl rfl (by exact HR2.out) ?_)
          | fail)
        go_ret
        exact HFIN.out
      · have ha : L.any (fun y => kLt k y.1) = true := by have := HD.out; rw [he] at this; exact this.symm
        have HFIN : Hid (TldP w (putL13 L k v) (.returned u7) wr) := Lib.hid ⟨_, rfl, by
          have h := HO.out
          rw [he, put_end1 ha] at h
          exact h, HC.out⟩
        clear hje he ha
        go_wp2_with fail
        go_ret
        exact HFIN.out
#print axioms rput_any
end Go.Proofs.Ytkpgaejmhddkdaa
