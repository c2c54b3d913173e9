/-
  batch: Apply, of a tree that is there and of a nil one; dumped; Fill. batch: dumped, walked. batch: an In's calls in the words of BatA; a text as bytes.
-/
import Derived.Test.YtkpahhioiefcbaaMb29
import Derived.Test.YtkpahhioiefcbaaMb28
import Derived.Lib.ConvBytes
namespace Go.Proofs.Ytkpahhioiefcbaa
open Go.RowKit
set_option linter.unusedVariables false
set_option maxRecDepth 100000
set_option linter.unusedSimpArgs false

/-! ### a nil tree -/
theorem ttop_nil (w : World) : Calls Try.prog 42 #[.pointer none] w fun e w' => e = .returned (.pointer none) ∧ w' = w := by
  go_enter Try.func42, Try.ntmps42
  go_wp2
  go_ret
  exact ⟨rfl, rfl⟩
theorem put_nil (k v : ByteArray) (w : World) : Calls Try.prog 30 #[.pointer none, .string k, .string v] w (Ans (.bool false) w) := by
  have HC := Lib.hid (Ch.refl (fun _ => False) w)
  go_enter Try.func30, Try.ntmps30
  go_wp2_with fail
  go_ret
  exact ⟨rfl, HC.out⟩
theorem get_nil (k : ByteArray) (w : World) : Calls Try.prog 44 #[.pointer none, .string k] w (Ans (.tuple #[.string ByteArray.empty, .bool false]) w) := by
  have HT := Lib.hid (ttop_nil w)
  go_enter Try.func44, Try.ntmps44
  go_wp2_with fail
  refine HT.out.mono ?_
  rintro e w1 ⟨rfl, rfl⟩
  clear HT
  go_wp2_with fail
  go_loopw [6] (fun p wr => p = .pointer none ∧ Hid (wr = w1)) (fun _ _ => 0)
  case atStart => exact ⟨rfl, Lib.hid rfl⟩
  case round =>
    obtain ⟨rfl, HW⟩ := hrel
    go_wp2_with fail
    go_ret2
    exact ⟨rfl, by rw [HW.out]; exact Ch.refl _ _⟩
theorem del_nil (k : ByteArray) (w : World) : Calls Try.prog 29 #[.pointer none, .string k] w (Ans (.bool false) w) := by
  have HG := Lib.hid (get_nil k w)
  go_enter Try.func29, Try.ntmps29
  go_wp2_with fail
  refine HG.out.mono ?_
  rintro e w1 ⟨rfl, hc⟩
  have HC := Lib.hid hc
  clear hc
  go_wp2_with fail
  go_ret
  exact ⟨rfl, HC.out⟩
#print axioms del_nil
/-! ### Apply -/
theorem chC_0 {w : World} {H : Nat} {x : ChV} (h : w.heap[H]? = some (.cells (chC x) 44 (0, 0))) : w.cell? ⟨H, 0, none⟩ = some (.string x.1) := blk_cell h
theorem chC_1 {w : World} {H : Nat} {x : ChV} (h : w.heap[H]? = some (.cells (chC x) 44 (0, 0))) : w.cell? ⟨H, 1, none⟩ = some (.string x.2.1) := blk_cell h
theorem chC_2 {w : World} {H : Nat} {x : ChV} (h : w.heap[H]? = some (.cells (chC x) 44 (0, 0))) : w.cell? ⟨H, 2, none⟩ = some (.bool x.2.2) := blk_cell h
set_option maxHeartbeats 3200000 in
theorem bapply_any (A : Option Addr) (C : Nat) (l : List ChV) (t h : Nat) (T : List Kv) (w : World) (ht : TreeIs w t h T) (hv : FlV kdCh w A C l) (hne : ∀ b o, A = some ⟨b, o, none⟩ → 0 < l.length → b ≠ t) (hl : l.length ≤ 10000) (hT : T.length ≤ 10000) : Calls Try.prog 15 #[.pointer (some ⟨t, 0, none⟩), .slice A l.length C] w (AppPost t T l w) := by
  have HV := Lib.hid hv
  have HNE := Lib.hid hne
  have HRI := Lib.hid ht.rise
  have HT := Lib.hid (show t < w.heap.size from by obtain ⟨_, _, hb⟩ := ht.cell; exact blk_lt hb)
  have HTI := Lib.hid ht
  obtain ⟨n, hn⟩ : ∃ n, n = l.length := ⟨_, rfl⟩
  have HN := Lib.hid hn
  have n0 : (0 : Int) ≤ (n : Int) := Int.natCast_nonneg _
  have n1 : (n : Int) ≤ 10000 := by omega
  rw [← hn] at hl ⊢
  have HL := Lib.hid (And.intro hl hT)
  clear hv hne ht hl hT hn
  go_enter Try.func15, Try.ntmps15
  go_wp2
  go_loopw [5, 8] (fun u i wr => ∃ j : Nat, j ≤ n ∧ i = .int .i64 (j : Int) ∧ Hid (∃ h', TreeIs wr t h' (appP T (l.take j))) ∧ Hid (Ch (fun i => i = t) w wr)) (fun u i _ => n - (intOf i).toNat)
  case atStart => exact ⟨0, Nat.zero_le _, rfl, Lib.hid ⟨h, HTI.out⟩, Lib.hid (Ch.refl _ _)⟩
  case round =>
    obtain ⟨j, hj, rfl, HO, HC⟩ := hrel
    have j0 : (0 : Int) ≤ (j : Int) := Int.natCast_nonneg _
    by_cases hlt : j < n
    · have j1 : (j : Int) < (n : Int) := by omega
      obtain ⟨x, hxe⟩ : ∃ x, l[j]? = some x := ⟨_, List.getElem?_eq_getElem (by rw [← HN.out]; exact hlt)⟩
      have hv2 := HV.out.ch HC.out fun b o e q => HNE.out b o e (by rw [← HN.out]; omega) q
      obtain ⟨b, o, rfl, hc⟩ := hv2.at' (by rw [← HN.out]; omega)
      have HLD := Lib.hid (hv2.load kdCh_ok hxe (Try.underlying44) rfl)
      have htk : l.take (j + 1) = l.take j ++ [x] := by rw [List.take_add_one, hxe]; rfl
      have HTK := Lib.hid htk
      have hap := app_le HRI.out (l.take j)
      rw [List.length_take] at hap
      obtain ⟨w4, Hx, hz⟩ := zeC wr
      obtain ⟨w5, hs⟩ := stC (x := x) hz.cx
      have hc5 : Ch (fun _ => False) wr w5 := hz.ch.new (hs.ch.mono fun i _ e => by rw [e, ← hz.sz]; exact Nat.le_refl _)
      have c0 := chC_0 hs.cx
      have c1 := chC_1 hs.cx
      have c2 := chC_2 hs.cx
      have HZ := Lib.hid hz
      have HST := Lib.hid hs
      obtain ⟨h', hti⟩ := HO.out
      have HTJ := Lib.hid (hti.gr hc5)
      have HAP := Lib.hid hap
      have HC5 := Lib.hid (HC.out.trans (hc5.mono fun _ _ f => f.elim))
      clear hv2 hc hxe htk hz hs hc5 hap hti HO
      cases hg : x.2.2
      · rw [hg] at c2
        have HP := Lib.hid (tput_any HTJ.out x.1 x.2.1 (by have := HAP.out; have := HL.out; omega))
        have HON : Hid (putL13 (appP T (l.take j)) x.1 x.2.1 = appP T (l.take (j + 1))) := Lib.hid (by rw [HTK.out, app_snoc]; unfold oneP; rw [hg]; rfl)
        clear hg
        go_wp2_with (first
          | ((with_reducible refine wpList_isOp (.load 44 (.tmp 10)) rfl ?_); refine wpList_loading _ rfl 44 (.tmp 10) rfl (.agg (chC x)) ⟨b, o + j * 3, none⟩ rfl (by exact HLD.out) ?_)
          | ((with_reducible refine wpList_isOp (.alloc 44) rfl ?_); refine wpList_making _ w4 rfl 44 rfl (chC ch0) Hx (zero_ch _) (by exact HZ.out.sz) (by exact HZ.out.al) ?_)
          | ((with_reducible refine wpList_isOp (.store 44 (.tmp 5) (.tmp 11)) rfl ?_); refine wpList_storing _ w5 rfl 44 (.tmp 5) (.tmp 11) rfl (.agg (chC x)) ⟨Hx, 0, none⟩ rfl rfl (by exact HST.out.st) ?_)
          | fail)
        refine HP.out.mono ?_
        rintro e w6 ⟨h6, rfl, T6, c6⟩
        have HO2 : Hid (∃ h', TreeIs w6 t h' (appP T (l.take (j + 1)))) := Lib.hid ⟨h6, by rw [← HON.out]; exact T6⟩
        have HC6 := Lib.hid (HC5.out.trans c6)
        obtain ⟨an, han⟩ : ∃ an, an = (!(getL (appP T (l.take j)) x.1).isSome) := ⟨_, rfl⟩
        rw [← han]
        clear T6 c6 han HP
        go_wp2_with fail
        go_roundw
        case rel => exact ⟨j + 1, by omega, by go_num, HO2, HC6⟩
        case measure => simp [intOf]; omega
      · rw [hg] at c2
        have HP := Lib.hid (tdel_any HTJ.out x.1)
        have HON : Hid (delL (appP T (l.take j)) x.1 = appP T (l.take (j + 1))) := Lib.hid (by rw [HTK.out, app_snoc]; unfold oneP; rw [hg]; rfl)
        clear hg
        go_wp2_with (first
          | ((with_reducible refine wpList_isOp (.load 44 (.tmp 10)) rfl ?_); refine wpList_loading _ rfl 44 (.tmp 10) rfl (.agg (chC x)) ⟨b, o + j * 3, none⟩ rfl (by exact HLD.out) ?_)
          | ((with_reducible refine wpList_isOp (.alloc 44) rfl ?_); refine wpList_making _ w4 rfl 44 rfl (chC ch0) Hx (zero_ch _) (by exact HZ.out.sz) (by exact HZ.out.al) ?_)
          | ((with_reducible refine wpList_isOp (.store 44 (.tmp 5) (.tmp 11)) rfl ?_); refine wpList_storing _ w5 rfl 44 (.tmp 5) (.tmp 11) rfl (.agg (chC x)) ⟨Hx, 0, none⟩ rfl rfl (by exact HST.out.st) ?_)
          | fail)
        refine HP.out.mono ?_
        rintro e w6 ⟨h6, rfl, T6, c6⟩
        have HO2 : Hid (∃ h', TreeIs w6 t h' (appP T (l.take (j + 1)))) := Lib.hid ⟨h6, by rw [← HON.out]; exact T6⟩
        have HC6 := Lib.hid (HC5.out.trans c6)
        obtain ⟨an, han⟩ : ∃ an, an = (getL (appP T (l.take j)) x.1).isSome := ⟨_, rfl⟩
        rw [← han]
        clear T6 c6 han HP
        go_wp2_with fail
        go_roundw
        case rel => exact ⟨j + 1, by omega, by go_num, HO2, HC6⟩
        case measure => simp [intOf]; omega
    · have hje : j = n := by omega
      have j1 : ¬ (j : Int) < (n : Int) := by omega
      have he : l.take j = l := by rw [hje, HN.out, List.take_length]
      have HF : Hid (∃ h', TreeIs wr t h' (appP T l)) := Lib.hid (by have := HO.out; rw [he] at this; exact this)
      clear hje he HO
      go_wp2
      go_end0
      obtain ⟨h', q⟩ := HF.out
      exact ⟨h', rfl, q, HC.out⟩
#print axioms bapply_any
set_option maxHeartbeats 3200000 in
theorem bapply_nil (A : Option Addr) (C : Nat) (l : List ChV) (w : World) (hv : FlV kdCh w A C l) (hl : l.length ≤ 10000) : Calls Try.prog 15 #[.pointer none, .slice A l.length C] w (Tid (.tuple #[]) w) := by
  have HV := Lib.hid hv
  obtain ⟨n, hn⟩ : ∃ n, n = l.length := ⟨_, rfl⟩
  have HN := Lib.hid hn
  have n0 : (0 : Int) ≤ (n : Int) := Int.natCast_nonneg _
  have n1 : (n : Int) ≤ 10000 := by omega
  rw [← hn] at hl ⊢
  clear hv hl hn
  go_enter Try.func15, Try.ntmps15
  go_wp2
  go_loopw [5, 8] (fun u i wr => ∃ j : Nat, j ≤ n ∧ i = .int .i64 (j : Int) ∧ Hid (Ch (fun _ => False) w wr)) (fun u i _ => n - (intOf i).toNat)
  case atStart => exact ⟨0, Nat.zero_le _, rfl, Lib.hid (Ch.refl _ _)⟩
  case round =>
    obtain ⟨j, hj, rfl, HC⟩ := hrel
    have j0 : (0 : Int) ≤ (j : Int) := Int.natCast_nonneg _
    by_cases hlt : j < n
    · have j1 : (j : Int) < (n : Int) := by omega
      obtain ⟨x, hxe⟩ : ∃ x, l[j]? = some x := ⟨_, List.getElem?_eq_getElem (by rw [← HN.out]; exact hlt)⟩
      have hv2 := HV.out.gr HC.out
      obtain ⟨b, o, rfl, hc⟩ := hv2.at' (by rw [← HN.out]; omega)
      have HLD := Lib.hid (hv2.load kdCh_ok hxe (Try.underlying44) rfl)
      obtain ⟨w4, Hx, hz⟩ := zeC wr
      obtain ⟨w5, hs⟩ := stC (x := x) hz.cx
      have hc5 : Ch (fun _ => False) wr w5 := hz.ch.new (hs.ch.mono fun i _ e => by rw [e, ← hz.sz]; exact Nat.le_refl _)
      have c0 := chC_0 hs.cx
      have c1 := chC_1 hs.cx
      have c2 := chC_2 hs.cx
      have HZ := Lib.hid hz
      have HST := Lib.hid hs
      have HC5 := Lib.hid (HC.out.trans hc5)
      clear hv2 hc hxe hz hs hc5
      cases hg : x.2.2
      · rw [hg] at c2
        clear hg
        go_wp2_with (first
          | ((with_reducible refine wpList_isOp (.load 44 (.tmp 10)) rfl ?_); refine wpList_loading _ rfl 44 (.tmp 10) rfl (.agg (chC x)) ⟨b, o + j * 3, none⟩ rfl (by exact HLD.out) ?_)
          | ((with_reducible refine wpList_isOp (.alloc 44) rfl ?_); refine wpList_making _ w4 rfl 44 rfl (chC ch0) Hx (zero_ch _) (by exact HZ.out.sz) (by exact HZ.out.al) ?_)
          | ((with_reducible refine wpList_isOp (.store 44 (.tmp 5) (.tmp 11)) rfl ?_); refine wpList_storing _ w5 rfl 44 (.tmp 5) (.tmp 11) rfl (.agg (chC x)) ⟨Hx, 0, none⟩ rfl rfl (by exact HST.out.st) ?_)
          | fail)
        refine (put_nil x.1 x.2.1 w5).mono ?_
        rintro e w6 ⟨rfl, c6⟩
        have HC6 := Lib.hid (HC5.out.trans c6)
        clear c6
        go_wp2_with fail
        go_roundw
        case rel => exact ⟨j + 1, by omega, by go_num, HC6⟩
        case measure => simp [intOf]; omega
      · rw [hg] at c2
        clear hg
        go_wp2_with (first
          | ((with_reducible refine wpList_isOp (.load 44 (.tmp 10)) rfl ?_); refine wpList_loading _ rfl 44 (.tmp 10) rfl (.agg (chC x)) ⟨b, o + j * 3, none⟩ rfl (by exact HLD.out) ?_)
          | ((with_reducible refine wpList_isOp (.alloc 44) rfl ?_); refine wpList_making _ w4 rfl 44 rfl (chC ch0) Hx (zero_ch _) (by exact HZ.out.sz) (by exact HZ.out.al) ?_)
          | ((with_reducible refine wpList_isOp (.store 44 (.tmp 5) (.tmp 11)) rfl ?_); refine wpList_storing _ w5 rfl 44 (.tmp 5) (.tmp 11) rfl (.agg (chC x)) ⟨Hx, 0, none⟩ rfl rfl (by exact HST.out.st) ?_)
          | fail)
        refine (del_nil x.1 w5).mono ?_
        rintro e w6 ⟨rfl, c6⟩
        have HC6 := Lib.hid (HC5.out.trans c6)
        clear c6
        go_wp2_with fail
        go_roundw
        case rel => exact ⟨j + 1, by omega, by go_num, HC6⟩
        case measure => simp [intOf]; omega
    · have hje : j = n := by omega
      have j1 : ¬ (j : Int) < (n : Int) := by omega
      clear hje
      go_wp2
      go_end0
      exact ⟨rfl, HC.out⟩
#print axioms bapply_nil
end Go.Proofs.Ytkpahhioiefcbaa
namespace Go.Proofs.Ytkpahhioiefcbaa
open Go.RowKit
set_option linter.unusedVariables false
set_option maxRecDepth 100000
set_option linter.unusedSimpArgs false

theorem put_no (a : Act) (v : Value) : a.put none v = a := rfl
set_option maxHeartbeats 6400000 in
theorem dumped_any (A : Option Addr) (C : Nat) (L : List ChV) (w : World) (h : FlV kdCh w A C L) (hL : L.length ≤ 1000000) : Calls Try.prog 27 #[.slice A L.length C] w (Tid (.bool (fillB L)) w) := by
  have HV := Lib.hid h
  obtain ⟨n, hn⟩ : ∃ n, n = L.length := ⟨_, rfl⟩
  rw [← hn] at hL ⊢
  have HN := Lib.hid hn
  have n0 : (0 : Int) ≤ (n : Int) := Int.natCast_nonneg _
  have n1 : (n : Int) ≤ 1000000 := by omega
  clear h hn hL
  go_enter Try.func27, Try.ntmps27
  go_wp2
  go_loopw [3, 4, 7] (fun u3 u4 i wr => ∃ j : Nat, j ≤ n ∧ i = .int .i64 (j : Int) ∧ Hid (fillP (L.take j)) ∧ Hid (Ch (fun _ => False) w wr)) (fun _ _ i _ => n - (intOf i).toNat)
  case atStart => exact ⟨0, Nat.zero_le _, rfl, Lib.hid fill_nil, Lib.hid (Ch.refl _ _)⟩
  case round =>
    obtain ⟨j, hj, rfl, HF, HC⟩ := hrel
    have j0 : (0 : Int) ≤ (j : Int) := Int.natCast_nonneg _
    by_cases hlt : j < n
    · have j1 : (j : Int) < (n : Int) := by omega
      have hx : L[j]? = some (L[j]'(by rw [← HN.out]; exact hlt)) := List.getElem?_eq_getElem _
      obtain ⟨x, hxe⟩ : ∃ x, L[j]? = some x := ⟨_, hx⟩
      have hv2 := HV.out.gr HC.out
      obtain ⟨b, o, rfl, hc⟩ := hv2.at' (by rw [← HN.out]; omega)
      have HLD := Lib.hid (hv2.load kdCh_ok hxe (Try.underlying44) rfl)
      obtain ⟨w4, Hx, hz⟩ := zeC wr
      obtain ⟨w5, hs⟩ := stC (x := x) hz.cx
      have hc5 : Ch (fun _ => False) wr w5 := hz.ch.new (hs.ch.mono fun i _ e => by rw [e, ← hz.sz]; exact Nat.le_refl _)
      have c0 := chC_0 hs.cx
      have c2 := chC_2 hs.cx
      have HZ := Lib.hid hz
      have HST := Lib.hid hs
      have HC5 := Lib.hid (HC.out.trans hc5)
      have HX := Lib.hid hxe
      cases hg : x.2.2
      · rw [hg] at c2
        cases j with
        | zero =>
          have HF2 : Hid (fillP (L.take (0 + 1))) := Lib.hid (by rw [List.take_add_one, hxe]; exact fill_snoc0 HF.out (List.take_zero) hg)
          clear hv2 hc hx hxe hg HF hz hs hc5
          go_wp2_with (first
            | ((with_reducible refine wpList_isOp (.load 44 (.tmp 10)) rfl ?_); refine wpList_loading _ rfl 44 (.tmp 10) rfl (.agg (chC x)) ⟨b, o + 0 * 3, none⟩ rfl (by exact HLD.out) ?_)
            | ((with_reducible refine wpList_isOp (.alloc 44) rfl ?_); refine wpList_making _ w4 rfl 44 rfl (chC ch0) Hx (zero_ch _) (by exact HZ.out.sz) (by exact HZ.out.al) ?_)
            | ((with_reducible refine wpList_isOp (.store 44 (.tmp 4) (.tmp 11)) rfl ?_); refine wpList_storing _ w5 rfl 44 (.tmp 4) (.tmp 11) rfl (.agg (chC x)) ⟨Hx, 0, none⟩ rfl rfl (by exact HST.out.st) ?_)
            | fail)
          rw [put_no]
          go_quiet (fail)
          go_wp2
          have HC6 := Lib.hid (HC5.out.drewN nq)
          go_roundw
          case rel => exact ⟨0 + 1, by omega, by go_num, HF2, HC6⟩
          case measure => simp [intOf]; omega
        | succ i =>
          have hy : L[i]? = some (L[i]'(by rw [← HN.out]; omega)) := List.getElem?_eq_getElem _
          obtain ⟨y, hye⟩ : ∃ y, L[i]? = some y := ⟨_, hy⟩
          have e0 : w5.cell? ⟨b, o + i * 3, none⟩ = some (.string y.1) := hc5.cell (hc i y hye 0 _ rfl) (fun f => f)
          have i0 : (0 : Int) ≤ (i : Int) := Int.natCast_nonneg _
          have i1 : ((i + 1 : Nat) : Int) = (i : Int) + 1 := by omega
          have i2 : (0 : Int) < ((i + 1 : Nat) : Int) := by omega
          have i3 : ((i + 1 : Nat) : Int) - 1 = (i : Int) := by omega
          have i4 : (i : Int) < (n : Int) := by omega
          have HY := Lib.hid hye
          cases hk : kLt y.1 x.1
          · have q1 : Op.bytesLess y.1.toList x.1.toList = false := hk
            have HNF := Lib.hid (fill_no (fill_falls hxe hye (by rw [hk]; exact Bool.false_ne_true)))
            clear hv2 hc hx hxe hy hye hg hk HF hz hs hc5
            go_wp2_with (first
              | ((with_reducible refine wpList_isOp (.load 44 (.tmp 10)) rfl ?_); refine wpList_loading _ rfl 44 (.tmp 10) rfl (.agg (chC x)) ⟨b, o + (i + 1) * 3, none⟩ rfl (by exact HLD.out) ?_)
              | ((with_reducible refine wpList_isOp (.alloc 44) rfl ?_); refine wpList_making _ w4 rfl 44 rfl (chC ch0) Hx (zero_ch _) (by exact HZ.out.sz) (by exact HZ.out.al) ?_)
              | ((with_reducible refine wpList_isOp (.store 44 (.tmp 4) (.tmp 11)) rfl ?_); refine wpList_storing _ w5 rfl 44 (.tmp 4) (.tmp 11) rfl (.agg (chC x)) ⟨Hx, 0, none⟩ rfl rfl (by exact HST.out.st) ?_)
              | fail)
            rw [put_no]
            go_quiet (fail)
            go_wp2
            have HC6 := Lib.hid (HC5.out.drewN nq)
            go_ret
            exact ⟨by rw [HNF.out]; rfl, HC6.out⟩
          · have q1 : Op.bytesLess y.1.toList x.1.toList = true := hk
            have HF2 : Hid (fillP (L.take (i + 1 + 1))) := Lib.hid (by
              rw [take_two hxe hye]
              refine fill_snoc ?_ hg hk
              have := HF.out
              rw [List.take_add_one, hye] at this
              exact this)
            clear hv2 hc hx hxe hy hye hg hk HF hz hs hc5
            go_wp2_with (first
              | ((with_reducible refine wpList_isOp (.load 44 (.tmp 10)) rfl ?_); refine wpList_loading _ rfl 44 (.tmp 10) rfl (.agg (chC x)) ⟨b, o + (i + 1) * 3, none⟩ rfl (by exact HLD.out) ?_)
              | ((with_reducible refine wpList_isOp (.alloc 44) rfl ?_); refine wpList_making _ w4 rfl 44 rfl (chC ch0) Hx (zero_ch _) (by exact HZ.out.sz) (by exact HZ.out.al) ?_)
              | ((with_reducible refine wpList_isOp (.store 44 (.tmp 4) (.tmp 11)) rfl ?_); refine wpList_storing _ w5 rfl 44 (.tmp 4) (.tmp 11) rfl (.agg (chC x)) ⟨Hx, 0, none⟩ rfl rfl (by exact HST.out.st) ?_)
              | fail)
            rw [put_no]
            go_quiet (fail)
            go_wp2
            have HC6 := Lib.hid (HC5.out.drewN nq)
            go_roundw
            case rel => exact ⟨i + 1 + 1, by omega, by go_num, HF2, HC6⟩
            case measure => simp [intOf]; omega
      · rw [hg] at c2
        have HNF := Lib.hid (fill_no (fill_gone hxe hg))
        clear hv2 hc hx hxe hg HF hz hs hc5
        go_wp2_with (first
          | ((with_reducible refine wpList_isOp (.load 44 (.tmp 10)) rfl ?_); refine wpList_loading _ rfl 44 (.tmp 10) rfl (.agg (chC x)) ⟨b, o + j * 3, none⟩ rfl (by exact HLD.out) ?_)
          | ((with_reducible refine wpList_isOp (.alloc 44) rfl ?_); refine wpList_making _ w4 rfl 44 rfl (chC ch0) Hx (zero_ch _) (by exact HZ.out.sz) (by exact HZ.out.al) ?_)
          | ((with_reducible refine wpList_isOp (.store 44 (.tmp 4) (.tmp 11)) rfl ?_); refine wpList_storing _ w5 rfl 44 (.tmp 4) (.tmp 11) rfl (.agg (chC x)) ⟨Hx, 0, none⟩ rfl rfl (by exact HST.out.st) ?_)
          | fail)
        rw [put_no]
        go_quiet (fail)
        go_wp2
        have HC6 := Lib.hid (HC5.out.drewN nq)
        go_ret
        exact ⟨by rw [HNF.out]; rfl, HC6.out⟩
    · have hje : j = n := by omega
      have j1 : ¬ (j : Int) < (n : Int) := by omega
      have HFY : Hid (fillB L = true) := Lib.hid (fill_yes (by have := HF.out; rw [hje, HN.out, List.take_length] at this; exact this))
      clear hje HF
      go_wp2
      go_ret
      exact ⟨by rw [HFY.out]; rfl, HC.out⟩
#print axioms dumped_any
end Go.Proofs.Ytkpahhioiefcbaa
namespace Go.Proofs.Ytkpahhioiefcbaa
open Go.RowKit
set_option linter.unusedVariables false
set_option maxRecDepth 100000
set_option linter.unusedSimpArgs false

theorem inum_g {B n : Nat} {x : Value} {z : Nat → Nat} {w : World} (h : InIs w B x n z) : Calls Try.prog 22 #[.pointer (some ⟨B, 0, none⟩)] w fun e w' => e = .returned (.tuple #[.int .i64 (gV n z : Int), .int .i64 (gE n z : Int)]) ∧ ∃ x', InIs w' B x' (n - gK n z) (tl z (gK n z)) ∧ (∀ S, Off S x → Off S x') ∧ Ch (fun i => i = B) w w' :=
  inum_any B n x z (rK n z) (rE n z) w h (rd_rk n z)
theorem ibytes_g {B n : Nat} {x : Value} {z : Nat → Nat} {w : World} (h : InIs w B x n z) (hn : n ≤ 1048576) : Calls Try.prog 37 #[.pointer (some ⟨B, 0, none⟩)] w fun e w' => ∃ y, e = .returned (.tuple #[y, .int .i64 (hE n z : Int)]) ∧ (∀ W, (∀ S, Ch S w' W → (∀ i, S i → i < w.heap.size ∨ w'.heap.size ≤ i) → (convert /-t-/22 /-t-/9 y).run Try.prog W = .ok (.string (hT n z)) W)) ∧ ∃ x', InIs w' B x' (n - hK n z) (tl z (hK n z)) ∧ (∀ S, Off S x → Off S x') ∧ Ch (fun i => i = B) w w' := by
  refine (ibytes_any B n x z (rK n z) (rE n z) w h (rd_rk n z) hn).mono ?_
  rintro e w' ⟨y, rfl, h1, h2, x', h3, h4, h5⟩
  refine ⟨y, rfl, fun W S hW hS => row_text (h1.off hW fun b o k C e q => ?_), x', h3, h4, h5⟩
  subst e
  obtain ⟨hb, c, hc⟩ := own_at h2 (i := b) (by
    rcases h2.2 with ⟨e, _⟩ | ⟨g, cap, cur, e, _⟩
    · cases e
    · injection e with e _ _
      injection e with e
      injection e with e1 e2
      subst e1 e2
      rfl)
  have := blk_lt hc
  rcases hS b q with q | q <;> omega
theorem text_conv (s : ByteArray) (hs : s.size ≤ 100000) (w : World) : ∃ C w', (convert /-t-/9 /-t-/22 (.string s)).run Try.prog w = .ok (.slice (some ⟨w.heap.size, 0, none⟩) s.size C) w' ∧ RowV w' (.slice (some ⟨w.heap.size, 0, none⟩) s.size C) s.size (zS s) ∧ Ch (fun _ => False) w w' := by
  refine ⟨_, _, Lib.run_convert_string_bytes w /-t-/9 /-t-/22 /-t-/5 s Try.underlying9 Try.underlying22 Try.underlying5, ⟨_, _, rfl, ⟨by omega, grownCap_ge w s.size 0 /-t-/5⟩, fun h0 => ⟨_, _, rfl, fun c hc => ⟨?_, zS_b s c⟩⟩⟩, ?_⟩
  · rw [Nat.zero_add, Lib.bytesWorld_cell w /-t-/5 s c hc]
    rfl
  · have h1 : Ch (fun _ => False) w (w.drew.alloc (.cells (Lib.bytesCells w /-t-/5 s) /-t-/5)) := ((Ch.refl _ w).drew).alloc _ _
    refine ⟨h1.os, h1.tape, h1.output, ?_, fun i hi _ => Lib.bytesWorld_at_old w /-t-/5 s i hi⟩
    rw [Lib.bytesWorld_size]
    omega
#print axioms text_conv
#print axioms ibytes_g
end Go.Proofs.Ytkpahhioiefcbaa
