/-
  The document's Pick (quartermasterref10), walked.
-/
import Derived.Test.YtjdknebifcdicaaMg36
import Derived.Test.YtjdknebifcdicaaMg29
namespace Go.Proofs.Ytjdknebifcdicaa
open Go.RowKit
set_option linter.unusedVariables false
set_option maxRecDepth 100000

def pickN (o b : Option Sp) : Option Sp :=
  match o, b with
  | none, b => b
  | some x, none => some x
  | some x, some b => if b.gen < x.gen then some x else some b
structure RPickP (w wr : World) (H : Nat) (N : Nat → Nat) (Z : Nat → Nat → Nat) (j : Nat) (v : Value) : Prop where
  tell : ∃ O : Nat → Option Sp, (∀ c, c < j → TellS (N c) (Z c) (c : Int) (O c)) ∧ wr.heap[H]? = some (.cells (supC (optS (pickF O j))) 25 (0, 0)) ∧ v = .bool (pickF O j).isSome
  ch : Ch (fun _ => False) w wr
theorem RPickP.next {w wr w2 : World} {H j : Nat} {N : Nat → Nat} {Z : Nat → Nat → Nat} {O : Nat → Option Sp} {o r : Option Sp} (hO : ∀ c, c < j → TellS (N c) (Z c) (c : Int) (O c)) (ho : TellS (N j) (Z j) (j : Int) o)
    (hr : pickN o (pickF O j) = r) (h2 : w2.heap[H]? = some (.cells (supC (optS r)) 25 (0, 0))) (hc : Ch (fun _ => False) w w2) : RPickP w w2 H N Z (j + 1) (.bool r.isSome) := by
  have e1 : pickF (up O j o) j = pickF O j := pickF_congr fun c hc => up_other O o (by omega)
  have e2 : pickF (up O j o) (j + 1) = r := by
    have e3 : pickF (up O j o) (j + 1) = pickN (up O j o j) (pickF (up O j o) j) := rfl
    rw [e3, up_same, e1]
    exact hr
  refine ⟨⟨up O j o, fun c hc => ?_, by rw [e2]; exact h2, by rw [e2]⟩, hc⟩
  by_cases q : c = j
  · subst q; rw [up_same]; exact ho
  · rw [up_other _ _ q]; exact hO c (by omega)
theorem min_lt {k j : Nat} : j < min k 4 ↔ j < k ∧ j < 4 := by omega
set_option maxHeartbeats 6400000 in
theorem rpick_any (A : Option Addr) (k C : Nat) (N : Nat → Nat) (Z : Nat → Nat → Nat) (w : World) (h : BsV w A k C N Z) : Calls Try.prog 17 #[.slice A k C] w (PickPost k N Z w) := by
  obtain ⟨w1, H, hZ⟩ := zeS w
  obtain ⟨wz, w2, H2, hV2⟩ := varS sp0 w1
  have HH := Lib.hid (show w.heap.size ≤ H ∧ H < H2 ∧ w.heap.size ≤ H2 from ⟨by rw [hZ.sz]; exact Nat.le_refl _, by rw [← hV2.sz]; exact blk_lt hZ.cx, by rw [← hV2.sz]; exact hZ.ch.size⟩)
  have HP0 := Lib.hid (show RPickP w w2 H2 N Z 0 (.bool false) from ⟨⟨fun _ => none, fun c hc => absurd hc (Nat.not_lt_zero c), hV2.cx, rfl⟩, hZ.ch.trans hV2.ch⟩)
  have HX0 := Lib.hid ((hV2.ch.block H (blk_lt (o := .cells (supC sp0) 25 (0, 0)) hZ.cx) (fun f => f)).trans hZ.cx)
  have HV := Lib.hid h
  have HZ := Lib.hid hZ
  have HV2 := Lib.hid hV2
  have HBN := Lib.hid (build_su w1)
  have hk := h.le
  clear hZ hV2 h
  go_enter Try.func17, Try.ntmps17
  go_wp2_with (first
    | ((with_reducible refine wpList_isOp (.build 25 #[]) rfl ?_); refine wpList_building _ rfl 25 #[] rfl _ (by exact HBN.out) ?_)
    | ((with_reducible refine wpList_isOp (.alloc 25) rfl ?_); refine wpList_making _ w1 rfl 25 rfl (supC sp0) H (zero_su _) (by exact HZ.out.sz) (by exact HZ.out.al) ?_)
    | ((with_reducible refine wpList_isOp (.alloc 25) rfl ?_); refine wpList_making _ wz rfl 25 rfl (supC sp0) H2 (zero_su _) (by exact HV2.out.sz) (by exact HV2.out.al) ?_)
    | ((with_reducible refine wpList_isOp (.store 25 (.tmp 4) (.tmp 9)) rfl ?_); refine wpList_storing _ w2 rfl 25 (.tmp 4) (.tmp 9) rfl (.agg (supC sp0)) ⟨H2, 0, none⟩ rfl rfl (by exact HV2.out.st) ?_)
    | fail)
  go_loopw [5, 6, 7, 8] (fun v i _ _ wr => ∃ j : Nat, j ≤ min k 4 ∧ i = .int .i64 j ∧ Hid (RPickP w wr H2 N Z j v) ∧ Hid (wr.heap[H]? = some (.cells (supC sp0) 25 (0, 0)))) (fun _ i _ _ _ => min k 4 - (intOf i).toNat)
  case atStart => exact ⟨0, Nat.zero_le _, rfl, HP0, HX0⟩
  case round =>
    obtain ⟨j, hj, rfl, HP, HX⟩ := hrel
    clear HP0
    obtain ⟨⟨O, hO, hl, rfl⟩, hch⟩ := HP.out
    by_cases hlt : j < min k 4
    · obtain ⟨hjk, hj4⟩ := min_lt.1 hlt
      have i1 : (0 : Int) ≤ (j : Int) := Int.natCast_nonneg _
      have i2 : (j : Int) < (k : Int) := by omega
      have i4 : (j : Int) < 4 := by omega
      obtain ⟨b, o, rfl, hcs⟩ := HV.out.at' (by omega)
      obtain ⟨A', C', hc0, hr0⟩ := hcs j hjk
      have hc1 := hch.cell hc0 (fun f => f)
      have HT := Lib.hid (rtold_any A' (N j) C' (Z j) (j : Int) wr (hr0.gr hch))
      obtain ⟨bo, hbo⟩ : ∃ bo, bo = pickF O j := ⟨_, rfl⟩
      rw [← hbo] at hl
      have HB := Lib.hid hbo
      have HO := Lib.hid hO
      have HLX := Lib.hid hl
      have HCH := Lib.hid hch
      have HLT := Lib.hid hlt
      rw [← hbo]
      clear hcs hc0 hr0 hO hl hch hbo hlt HP hjk hj4 hj
      go_wp2_with fail
      refine HT.out.mono ?_
      rintro e w4 ⟨ot, ht, rfl, hc4⟩
      obtain ⟨wz5, w5, H5, hV5⟩ := varS (optS ot) w4
      have hc45 := hc4.trans hV5.ch
      have hl5 := (hc45.block H2 (blk_lt (o := .cells (supC (optS bo)) 25 (0, 0)) HLX.out) (fun f => f)).trans HLX.out
      have hx5 := (hc45.block H (blk_lt (o := .cells (supC sp0) 25 (0, 0)) HX.out) (fun f => f)).trans HX.out
      have HL5 := Lib.hid (load_su hV5.cx)
      obtain ⟨w6, h6⟩ := stS (optS ot) hl5
      have HNX := Lib.hid (fun (r : Option Sp) w2 (hr : pickN ot (pickF O j) = r) => RPickP.next (w := w) (wr := wr) (w2 := w2) (H := H2) HO.out ht hr)
      rw [← HB.out] at HNX
      have HC5 := Lib.hid (HCH.out.trans hc45)
      have HX5 := Lib.hid hx5
      have HLX5 := Lib.hid hl5
      have HVX5 := Lib.hid hV5.cx
      have HV5 := Lib.hid hV5
      have H6 := Lib.hid h6
      have HX6 := Lib.hid ((h6.ch.block H (blk_lt (o := .cells (supC sp0) 25 (0, 0)) hx5) (fun q => by have := HH.out.2.1; omega)).trans hx5)
      have HC6 := Lib.hid ((HCH.out.trans hc45).new (h6.ch.mono fun i _ hi => by rw [hi]; exact HH.out.2.2))
      clear hc4 hV5 hc45 hl5 hx5 h6 ht HT
      cases ot with
      | none =>
        go_wp2_with (first
          | ((with_reducible refine wpList_isOp (.alloc 25) rfl ?_); refine wpList_making _ wz5 rfl 25 rfl (supC sp0) H5 (zero_su _) (by exact HV5.out.sz) (by exact HV5.out.al) ?_)
          | ((with_reducible refine wpList_isOp (.store 25 (.tmp 7) (.tmp 27)) rfl ?_); refine wpList_storing _ w5 rfl 25 (.tmp 7) (.tmp 27) rfl (.agg (supC (optS none))) ⟨H5, 0, none⟩ rfl rfl (by exact HV5.out.st) ?_)
          | fail)
        go_roundw
        case rel => exact ⟨j + 1, HLT.out, by go_num, Lib.hid (HNX.out bo _ rfl HLX5.out HC5.out), HX5⟩
        case measure => have := HLT.out; simp [intOf]; omega
      | some y =>
        cases bo with
        | none =>
          go_wp2_with (first
            | ((with_reducible refine wpList_isOp (.alloc 25) rfl ?_); refine wpList_making _ wz5 rfl 25 rfl (supC sp0) H5 (zero_su _) (by exact HV5.out.sz) (by exact HV5.out.al) ?_)
            | ((with_reducible refine wpList_isOp (.store 25 (.tmp 7) (.tmp 27)) rfl ?_); refine wpList_storing _ w5 rfl 25 (.tmp 7) (.tmp 27) rfl (.agg (supC (optS (some y)))) ⟨H5, 0, none⟩ rfl rfl (by exact HV5.out.st) ?_)
            | ((with_reducible refine wpList_isOp (.load 25 (.tmp 7)) rfl ?_); refine wpList_loading _ rfl 25 (.tmp 7) rfl (.agg (supC (optS (some y)))) ⟨H5, 0, none⟩ rfl (by exact HL5.out) ?_)
            | ((with_reducible refine wpList_isOp (.store 25 (.tmp 4) (.tmp 41)) rfl ?_); refine wpList_storing _ w6 rfl 25 (.tmp 4) (.tmp 41) rfl (.agg (supC (optS (some y)))) ⟨H2, 0, none⟩ rfl rfl (by exact H6.out.st) ?_)
            | fail)
          go_roundw
          case rel => exact ⟨j + 1, HLT.out, by go_num, Lib.hid (HNX.out (some y) _ rfl H6.out.cx HC6.out), HX6⟩
          case measure => have := HLT.out; simp [intOf]; omega
        | some b =>
          have y1 : w5.cell? ⟨H5, 1, none⟩ = some (.int .i64 y.gen) := blk_cell HVX5.out
          have y2 : w5.cell? ⟨H2, 1, none⟩ = some (.int .i64 b.gen) := blk_cell HLX5.out
          by_cases hg : b.gen < y.gen
          · have HG := Lib.hid (show (if b.gen < y.gen then some y else some b) = some y from if_pos hg)
            have hg1 : decide (b.gen < y.gen) = true := decide_eq_true hg
            clear hg
            go_wp2_with (first
              | ((with_reducible refine wpList_isOp (.alloc 25) rfl ?_); refine wpList_making _ wz5 rfl 25 rfl (supC sp0) H5 (zero_su _) (by exact HV5.out.sz) (by exact HV5.out.al) ?_)
              | ((with_reducible refine wpList_isOp (.store 25 (.tmp 7) (.tmp 27)) rfl ?_); refine wpList_storing _ w5 rfl 25 (.tmp 7) (.tmp 27) rfl (.agg (supC (optS (some y)))) ⟨H5, 0, none⟩ rfl rfl (by exact HV5.out.st) ?_)
              | ((with_reducible refine wpList_isOp (.load 25 (.tmp 7)) rfl ?_); refine wpList_loading _ rfl 25 (.tmp 7) rfl (.agg (supC (optS (some y)))) ⟨H5, 0, none⟩ rfl (by exact HL5.out) ?_)
              | ((with_reducible refine wpList_isOp (.store 25 (.tmp 4) (.tmp 41)) rfl ?_); refine wpList_storing _ w6 rfl 25 (.tmp 4) (.tmp 41) rfl (.agg (supC (optS (some y)))) ⟨H2, 0, none⟩ rfl rfl (by exact H6.out.st) ?_)
              | fail)
            go_roundw
            case rel => exact ⟨j + 1, HLT.out, by go_num, Lib.hid (HNX.out (some y) _ HG.out H6.out.cx HC6.out), HX6⟩
            case measure => have := HLT.out; simp [intOf]; omega
          · have HG := Lib.hid (show (if b.gen < y.gen then some y else some b) = some b from if_neg hg)
            have hg1 : decide (b.gen < y.gen) = false := decide_eq_false hg
            clear hg
            go_wp2_with (first
              | ((with_reducible refine wpList_isOp (.alloc 25) rfl ?_); refine wpList_making _ wz5 rfl 25 rfl (supC sp0) H5 (zero_su _) (by exact HV5.out.sz) (by exact HV5.out.al) ?_)
              | ((with_reducible refine wpList_isOp (.store 25 (.tmp 7) (.tmp 27)) rfl ?_); refine wpList_storing _ w5 rfl 25 (.tmp 7) (.tmp 27) rfl (.agg (supC (optS (some y)))) ⟨H5, 0, none⟩ rfl rfl (by exact HV5.out.st) ?_)
              | fail)
            go_roundw
            case rel => exact ⟨j + 1, HLT.out, by go_num, Lib.hid (HNX.out (some b) _ HG.out HLX5.out HC5.out), HX5⟩
            case measure => have := HLT.out; simp [intOf]; omega
    · obtain ⟨m, hm⟩ : ∃ m, m = min k 4 := ⟨_, rfl⟩
      obtain rfl : j = m := by omega
      have HFIN := Lib.hid (show ∀ w', Ch (fun _ => False) w w' → PickPost k N Z w (.returned (.tuple #[.agg (supC (optS (pickF O j))), .bool (pickF O j).isSome])) w' from fun w' hw' => by
        unfold PickPost
        rw [← hm]
        exact ⟨O, hO, rfl, hw'⟩)
      obtain ⟨bo, hbo⟩ : ∃ bo, bo = pickF O j := ⟨_, rfl⟩
      rw [← hbo] at hl HFIN
      rw [← hbo]
      obtain ⟨w6, h6⟩ := stS (optS bo) HX.out
      have HL := Lib.hid (load_su hl)
      have H6 := Lib.hid h6
      have HP6 := Lib.hid (HFIN.out w6 (hch.new (h6.ch.mono fun i _ hi => by rw [hi]; exact HH.out.1)))
      by_cases hjk : j < k
      · have i1 : (j : Int) < (k : Int) := by omega
        have i4 : ¬ (j : Int) < 4 := by omega
        clear hm hbo hl hO h6 hlt hj hch hjk HFIN hk HP
        go_wp2_with (first
          | ((with_reducible refine wpList_isOp (.load 25 (.tmp 4)) rfl ?_); refine wpList_loading _ rfl 25 (.tmp 4) rfl (.agg (supC (optS bo))) ⟨H2, 0, none⟩ rfl (by exact HL.out) ?_)
          | ((with_reducible refine wpList_isOp (.store 25 (.tmp 2) (.tmp 42)) rfl ?_); refine wpList_storing _ w6 rfl 25 (.tmp 2) (.tmp 42) rfl (.agg (supC (optS bo))) ⟨H, 0, none⟩ rfl rfl (by exact H6.out.st) ?_)
          | fail)
        exact bodyPost_ret (v := .tuple #[.agg (supC (optS bo)), .bool bo.isSome]) (results_su Try.results17 _ _ H (optS bo) rfl H6.out.cx) rfl HP6.out
      · have i1 : ¬ (j : Int) < (k : Int) := by omega
        clear hm hbo hl hO h6 hlt hj hch hjk HFIN hk HP
        go_wp2_with (first
          | ((with_reducible refine wpList_isOp (.load 25 (.tmp 4)) rfl ?_); refine wpList_loading _ rfl 25 (.tmp 4) rfl (.agg (supC (optS bo))) ⟨H2, 0, none⟩ rfl (by exact HL.out) ?_)
          | ((with_reducible refine wpList_isOp (.store 25 (.tmp 2) (.tmp 42)) rfl ?_); refine wpList_storing _ w6 rfl 25 (.tmp 2) (.tmp 42) rfl (.agg (supC (optS bo))) ⟨H, 0, none⟩ rfl rfl (by exact H6.out.st) ?_)
          | fail)
        exact bodyPost_ret (v := .tuple #[.agg (supC (optS bo)), .bool bo.isSome]) (results_su Try.results17 _ _ H (optS bo) rfl H6.out.cx) rfl HP6.out
#print axioms rpick_any
end Go.Proofs.Ytjdknebifcdicaa
