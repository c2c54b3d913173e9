/-
  The document's Del and From, walked: what is left of a list.
-/
import Derived.Test.YtkpgaejmhddkdaaTrFc
namespace Go.Proofs.Ytkpgaejmhddkdaa
open Go.RowKit
set_option linter.unusedVariables false
set_option maxRecDepth 100000
set_option linter.unusedSimpArgs false

set_option maxHeartbeats 1600000 in
theorem rdel_any (A : Option Addr) (C : Nat) (L : List Kv) (k : ByteArray) (w : World) (h : FlV kdKv w A C L) (hL : L.length ≤ 1000000) : Calls Try.prog 12 #[.slice A L.length C, .string k] w (TldP w (delL L k)) := by
  have HV := Lib.hid h
  obtain ⟨n, hn⟩ : ∃ n, n = L.length := ⟨_, rfl⟩
  rw [← hn] at hL ⊢
  have HN := Lib.hid hn
  have n0 : (0 : Int) ≤ (n : Int) := Int.natCast_nonneg _
  have n1 : (n : Int) ≤ 1000000 := by omega
  have HL := Lib.hid hL
  clear h hn hL
  go_enter Try.func12, Try.ntmps12
  go_wp2
  go_loopw [5, 6] (fun u i wr => ∃ j : Nat, j ≤ n ∧ i = .int .i64 (j : Int) ∧ Hid (FlO kdKv w wr u (delL (L.take j) k)) ∧ Hid (Ch (fun _ => False) w wr)) (fun u i _ => n - (intOf i).toNat)
  case atStart => exact ⟨0, Nat.zero_le _, rfl, Lib.hid (FlO.start _ _ _), Lib.hid (Ch.refl _ _)⟩
  case round =>
    obtain ⟨j, hj, rfl, HO, HC⟩ := hrel
    have j0 : (0 : Int) ≤ (j : Int) := Int.natCast_nonneg _
    by_cases hlt : j < n
    · have j1 : (j : Int) < (n : Int) := by omega
      have hv := HV.out.gr HC.out
      obtain ⟨b, o, rfl, hc⟩ := hv.at' (by rw [← HN.out]; omega)
      have hx : L[j]? = some (L[j]'(by rw [← HN.out]; exact hlt)) := List.getElem?_eq_getElem _
      obtain ⟨x, hxe⟩ : ∃ x, L[j]? = some x := ⟨_, hx⟩
      have c0 : wr.cell? ⟨b, o + j * 2, none⟩ = some (.string x.1) := hc j x hxe 0 _ rfl
      have HLD := Lib.hid (hv.load kdKv_ok hxe (Try.underlying48) rfl)
      have htk : L.take (j + 1) = L.take j ++ [x] := by rw [List.take_add_one, hxe]; rfl
      have HTK := Lib.hid htk
      clear hc hx hxe hv htk
      cases q : kEq x.1 k
      · have t : (x.1.toList == k.toList) = false := q
        obtain ⟨g, cap, W2, hr, ho, hk, hg⟩ := FlO.app kdKv_ok (x := x) HO.out (by have := HL.out; have := List.length_filter_le (fun y => !kEq y.1 k) (L.take j); rw [List.length_take] at this; unfold delL; omega) HC.out.size
        have hsl := fl_slice kdKv_ok wr x
        have hnx : delL (L.take (j + 1)) k = delL (L.take j) k ++ [x] := by
          rw [HTK.out]
          unfold delL
          rw [List.filter_append]
          simp [q]
        rw [← hnx] at ho
        obtain ⟨M, hM⟩ : ∃ M, M = (delL (L.take j) k).length + 1 := ⟨_, rfl⟩
        have hMn : M = (delL (L.take (j + 1)) k).length := by rw [hnx, List.length_append, hM]; rfl
        rw [← hM] at hr ho
        have HO2 := Lib.hid ho
        have HC2 := Lib.hid (HC.out.new (hk.mono fun i _ e => (HO.out.lo e).1))
        obtain ⟨v, hv⟩ : ∃ v, v = u5 := ⟨_, rfl⟩
        have HR := Lib.hid hr
        have HSL := Lib.hid hsl
        clear hr ho hk hg hsl hnx hM hMn q hv
        go_wp2_with (first
          | ((with_reducible refine wpList_isOp (.load 48 (.tmp 23)) rfl ?_); refine wpList_loading _ rfl 48 (.tmp 23) rfl (.agg #[.string x.1, .int .i64 x.2]) ⟨b, o + j * 2, none⟩ rfl (by exact HLD.out) ?_)
          | ((with_reducible refine wpList_isOp (.buildSlice 29 1 #[(0, .tmp 24)]) rfl ?_); refine wpList_sliceF _ _ rfl 29 0 1 (.tmp 24) rfl (.agg #[.string x.1, .int .i64 x.2]) _ rfl (by exact HSL.out) ?_)
          | (at_builtin; refine wpList_appF 29 _ rfl (.tmp 20) (.tmp 25) rfl rfl _ _ (.slice (some ⟨g, 0, none⟩) M cap) W2 rfl rfl (by exact HR.out) ?_)
          | fail)
        go_roundw
        case rel => exact ⟨j + 1, by omega, by go_num, HO2, HC2⟩
        case measure => simp [intOf]; omega
      · have t : (x.1.toList == k.toList) = true := q
        have hnx : delL (L.take (j + 1)) k = delL (L.take j) k := by
          rw [HTK.out]
          unfold delL
          rw [List.filter_append]
          simp [q]
        have HO2 : Hid (FlO kdKv w wr u5 (delL (L.take (j + 1)) k)) := Lib.hid (by rw [hnx]; exact HO.out)
        clear hnx q
        go_wp2
        go_roundw
        case rel => exact ⟨j + 1, by omega, by go_num, HO2, HC⟩
        case measure => simp [intOf]; omega
    · have hje : j = n := by omega
      have j1 : ¬ (j : Int) < (n : Int) := by omega
      have HFIN : Hid (TldP w (delL L k) (.returned u5) wr) := Lib.hid ⟨_, rfl, by
        have e : L.take j = L := by rw [hje, HN.out, List.take_length]
        have := HO.out
        rw [e] at this
        exact this, HC.out⟩
      clear hje
      go_wp2
      go_ret
      exact HFIN.out
#print axioms rdel_any
set_option maxHeartbeats 1600000 in
theorem rfrom_any (A : Option Addr) (C : Nat) (L : List Kv) (k : ByteArray) (w : World) (h : FlV kdKv w A C L) (hL : L.length ≤ 1000000) : Calls Try.prog 16 #[.slice A L.length C, .string k] w (TldP w (fromL L k)) := by
  have HV := Lib.hid h
  obtain ⟨n, hn⟩ : ∃ n, n = L.length := ⟨_, rfl⟩
  rw [← hn] at hL ⊢
  have HN := Lib.hid hn
  have n0 : (0 : Int) ≤ (n : Int) := Int.natCast_nonneg _
  have n1 : (n : Int) ≤ 1000000 := by omega
  have HL := Lib.hid hL
  clear h hn hL
  go_enter Try.func16, Try.ntmps16
  go_wp2
  go_loopw [5, 6] (fun u i wr => ∃ j : Nat, j ≤ n ∧ i = .int .i64 (j : Int) ∧ Hid (FlO kdKv w wr u (fromL (L.take j) k)) ∧ Hid (Ch (fun _ => False) w wr)) (fun u i _ => n - (intOf i).toNat)
  case atStart => exact ⟨0, Nat.zero_le _, rfl, Lib.hid (FlO.start _ _ _), Lib.hid (Ch.refl _ _)⟩
  case round =>
    obtain ⟨j, hj, rfl, HO, HC⟩ := hrel
    have j0 : (0 : Int) ≤ (j : Int) := Int.natCast_nonneg _
    by_cases hlt : j < n
    · have j1 : (j : Int) < (n : Int) := by omega
      have hv := HV.out.gr HC.out
      obtain ⟨b, o, rfl, hc⟩ := hv.at' (by rw [← HN.out]; omega)
      have hx : L[j]? = some (L[j]'(by rw [← HN.out]; exact hlt)) := List.getElem?_eq_getElem _
      obtain ⟨x, hxe⟩ : ∃ x, L[j]? = some x := ⟨_, hx⟩
      have c0 : wr.cell? ⟨b, o + j * 2, none⟩ = some (.string x.1) := hc j x hxe 0 _ rfl
      have HLD := Lib.hid (hv.load kdKv_ok hxe (Try.underlying48) rfl)
      have htk : L.take (j + 1) = L.take j ++ [x] := by rw [List.take_add_one, hxe]; rfl
      have HTK := Lib.hid htk
      clear hc hx hxe hv htk
      cases q : kLt x.1 k
      · have t : Op.bytesLess x.1.toList k.toList = false := q
        obtain ⟨g, cap, W2, hr, ho, hk, hg⟩ := FlO.app kdKv_ok (x := x) HO.out (by have := HL.out; have := List.length_filter_le (fun y => !kLt y.1 k) (L.take j); rw [List.length_take] at this; unfold fromL; omega) HC.out.size
        have hsl := fl_slice kdKv_ok wr x
        have hnx : fromL (L.take (j + 1)) k = fromL (L.take j) k ++ [x] := by
          rw [HTK.out]
          unfold fromL
          rw [List.filter_append]
          simp [q]
        rw [← hnx] at ho
        obtain ⟨M, hM⟩ : ∃ M, M = (fromL (L.take j) k).length + 1 := ⟨_, rfl⟩
        have hMn : M = (fromL (L.take (j + 1)) k).length := by rw [hnx, List.length_append, hM]; rfl
        rw [← hM] at hr ho
        have HO2 := Lib.hid ho
        have HC2 := Lib.hid (HC.out.new (hk.mono fun i _ e => (HO.out.lo e).1))
        obtain ⟨v, hv⟩ : ∃ v, v = u5 := ⟨_, rfl⟩
        have HR := Lib.hid hr
        have HSL := Lib.hid hsl
        clear hr ho hk hg hsl hnx hM hMn q hv
        go_wp2_with (first
          | ((with_reducible refine wpList_isOp (.load 48 (.tmp 23)) rfl ?_); refine wpList_loading _ rfl 48 (.tmp 23) rfl (.agg #[.string x.1, .int .i64 x.2]) ⟨b, o + j * 2, none⟩ rfl (by exact HLD.out) ?_)
          | ((with_reducible refine wpList_isOp (.buildSlice 29 1 #[(0, .tmp 24)]) rfl ?_); refine wpList_sliceF _ _ rfl 29 0 1 (.tmp 24) rfl (.agg #[.string x.1, .int .i64 x.2]) _ rfl (by exact HSL.out) ?_)
          | (at_builtin; refine wpList_appF 29 _ rfl (.tmp 20) (.tmp 25) rfl rfl _ _ (.slice (some ⟨g, 0, none⟩) M cap) W2 rfl rfl (by exact HR.out) ?_)
          | fail)
        go_roundw
        case rel => exact ⟨j + 1, by omega, by go_num, HO2, HC2⟩
        case measure => simp [intOf]; omega
      · have t : Op.bytesLess x.1.toList k.toList = true := q
        have hnx : fromL (L.take (j + 1)) k = fromL (L.take j) k := by
          rw [HTK.out]
          unfold fromL
          rw [List.filter_append]
          simp [q]
        have HO2 : Hid (FlO kdKv w wr u5 (fromL (L.take (j + 1)) k)) := Lib.hid (by rw [hnx]; exact HO.out)
        clear hnx q
        go_wp2
        go_roundw
        case rel => exact ⟨j + 1, by omega, by go_num, HO2, HC⟩
        case measure => simp [intOf]; omega
    · have hje : j = n := by omega
      have j1 : ¬ (j : Int) < (n : Int) := by omega
      have HFIN : Hid (TldP w (fromL L k) (.returned u5) wr) := Lib.hid ⟨_, rfl, by
        have e : L.take j = L := by rw [hje, HN.out, List.take_length]
        have := HO.out
        rw [e] at this
        exact this, HC.out⟩
      clear hje
      go_wp2
      go_ret
      exact HFIN.out
#print axioms rfrom_any
end Go.Proofs.Ytkpgaejmhddkdaa
