/-
  The document's Class and Same (quartermasterref07), walked.
-/
import Derived.Test.YtennkpjmdhidaaaBlkJ
namespace Go.Proofs.Ytennkpjmdhidaaa
open Go.RowKit
set_option linter.unusedVariables false

set_option maxHeartbeats 3200000 in
set_option maxRecDepth 100000 in
theorem rclass_any (A : Option Addr) (n C : Nat) (z : Nat → Nat) (want : Bk) (w : World) (h : RowV w (.slice A n C) n z) : Calls Try.prog 18 #[.slice A n C, .agg (bkC want)] w (Ans (.int .i64 (classOf n z want)) w) := by
  obtain ⟨w1, H, hR⟩ := bkR w want
  have HR := Lib.hid hR
  have HV1 := Lib.hid (h.gr hR.ch)
  clear hR h
  go_enter Try.func18, Try.ntmps18
  go_wp2_with ((with_reducible refine wpList_isOp (.box 24 (.tmp 1)) rfl ?_); refine wpList_boxing _ w1 rfl 24 (.tmp 1) rfl (bkC want) H rfl (by exact HR.out.sz) (by exact HR.out.al) ?_)
  refine (ropen_any A n C z _ HV1.out).mono ?_
  rintro e w2 ⟨V, rfl, hb2, hc2⟩
  obtain ⟨o, ho⟩ : ∃ o, o = openB n z V := ⟨_, rfl⟩
  rw [← ho] at hb2 ⊢
  obtain ⟨w3, H3, hZ3⟩ := zeR w2
  have hoV : ∃ A n C, o.V = .slice A n C := by
    obtain ⟨A', C', e, _⟩ := hb2.row
    exact ⟨_, _, _, e⟩
  obtain ⟨w4, h4⟩ := stR (b := o) hZ3.cx hoV
  have hc4 : Ch (fun _ => False) w2 w4 := hZ3.ch.over h4.ch (by rw [hZ3.sz]; exact Nat.le_refl _)
  have hx : w4.heap[H]? = some (.cells (bkC want) 24 (0, 0)) := ((hc2.trans hc4).block H (blk_lt (o := .cells (bkC want) 24 (0, 0)) HR.out.cx) (fun f => f)).trans HR.out.cx
  have a0 : w4.cell? ⟨H, 0, none⟩ = some (.int .i64 want.kind) := blk_cell hx
  have a1 : w4.cell? ⟨H, 1, none⟩ = some (.int .i64 want.vol) := blk_cell hx
  have a2 : w4.cell? ⟨H, 2, none⟩ = some (.int .i64 want.addr) := blk_cell hx
  have a3 : w4.cell? ⟨H, 3, none⟩ = some (.int .i64 want.epoch) := blk_cell hx
  have a4 : w4.cell? ⟨H, 4, none⟩ = some (.int .i64 want.seq) := blk_cell hx
  have c0 : w4.cell? ⟨H3, 0, none⟩ = some (.int .i64 o.kind) := blk_cell h4.cx
  have c1 : w4.cell? ⟨H3, 1, none⟩ = some (.int .i64 o.vol) := blk_cell h4.cx
  have c2 : w4.cell? ⟨H3, 2, none⟩ = some (.int .i64 o.addr) := blk_cell h4.cx
  have c3 : w4.cell? ⟨H3, 3, none⟩ = some (.int .i64 o.epoch) := blk_cell h4.cx
  have c4 : w4.cell? ⟨H3, 4, none⟩ = some (.int .i64 o.seq) := blk_cell h4.cx
  have HC := Lib.hid (HR.out.ch.trans (hc2.trans hc4))
  have HZ3 := Lib.hid hZ3
  have H4 := Lib.hid h4
  have HO := Lib.hid ho
  clear hb2 hc2 hc4 hZ3 h4 hx hoV ho
  by_cases hop : opensB n z = true
  · have hE : openE n z = 0 := openE_zero.2 hop
    rw [hE]
    have hcl := classOf_yes (want := want) hop V (HO.out.trans (openB_yes hop V))
    obtain ⟨q1, hq1⟩ : ∃ q, (o.vol != want.vol) = q := ⟨_, rfl⟩
    obtain ⟨q2, hq2⟩ : ∃ q, (o.addr != want.addr) = q := ⟨_, rfl⟩
    obtain ⟨q3, hq3⟩ : ∃ q, (o.kind != want.kind) = q := ⟨_, rfl⟩
    obtain ⟨q4, hq4⟩ : ∃ q, (o.epoch != want.epoch) = q := ⟨_, rfl⟩
    obtain ⟨q5, hq5⟩ : ∃ q, (o.seq != want.seq) = q := ⟨_, rfl⟩
    rw [hq1, hq2, hq3, hq4, hq5] at hcl
    have HCL := Lib.hid hcl
    clear hop hE hcl
    cases q1
    case true =>
      go_wp2_with (first
        | ((with_reducible refine wpList_isOp (.alloc 24) rfl ?_); refine wpList_making _ w3 rfl 24 rfl (bkC bk0) H3 (zero_bk _) (by exact HZ3.out.sz) (by exact HZ3.out.al) ?_)
        | ((with_reducible refine wpList_isOp (.store 24 (.tmp 5) (.tmp 10)) rfl ?_); refine wpList_storing _ w4 rfl 24 (.tmp 5) (.tmp 10) rfl (.agg (bkC o)) ⟨H3, 0, none⟩ rfl rfl (by exact H4.out.st) ?_))
      go_ret
      exact ⟨ret_int HCL.out.symm, HC.out⟩
    cases q2
    case true =>
      go_wp2_with (first
        | ((with_reducible refine wpList_isOp (.alloc 24) rfl ?_); refine wpList_making _ w3 rfl 24 rfl (bkC bk0) H3 (zero_bk _) (by exact HZ3.out.sz) (by exact HZ3.out.al) ?_)
        | ((with_reducible refine wpList_isOp (.store 24 (.tmp 5) (.tmp 10)) rfl ?_); refine wpList_storing _ w4 rfl 24 (.tmp 5) (.tmp 10) rfl (.agg (bkC o)) ⟨H3, 0, none⟩ rfl rfl (by exact H4.out.st) ?_))
      go_ret
      exact ⟨ret_int HCL.out.symm, HC.out⟩
    cases q3
    case true =>
      go_wp2_with (first
        | ((with_reducible refine wpList_isOp (.alloc 24) rfl ?_); refine wpList_making _ w3 rfl 24 rfl (bkC bk0) H3 (zero_bk _) (by exact HZ3.out.sz) (by exact HZ3.out.al) ?_)
        | ((with_reducible refine wpList_isOp (.store 24 (.tmp 5) (.tmp 10)) rfl ?_); refine wpList_storing _ w4 rfl 24 (.tmp 5) (.tmp 10) rfl (.agg (bkC o)) ⟨H3, 0, none⟩ rfl rfl (by exact H4.out.st) ?_))
      go_ret
      exact ⟨ret_int HCL.out.symm, HC.out⟩
    cases q4
    case true =>
      go_wp2_with (first
        | ((with_reducible refine wpList_isOp (.alloc 24) rfl ?_); refine wpList_making _ w3 rfl 24 rfl (bkC bk0) H3 (zero_bk _) (by exact HZ3.out.sz) (by exact HZ3.out.al) ?_)
        | ((with_reducible refine wpList_isOp (.store 24 (.tmp 5) (.tmp 10)) rfl ?_); refine wpList_storing _ w4 rfl 24 (.tmp 5) (.tmp 10) rfl (.agg (bkC o)) ⟨H3, 0, none⟩ rfl rfl (by exact H4.out.st) ?_))
      go_ret
      exact ⟨ret_int HCL.out.symm, HC.out⟩
    all_goals (cases q5)
    all_goals (
      go_wp2_with (first
        | ((with_reducible refine wpList_isOp (.alloc 24) rfl ?_); refine wpList_making _ w3 rfl 24 rfl (bkC bk0) H3 (zero_bk _) (by exact HZ3.out.sz) (by exact HZ3.out.al) ?_)
        | ((with_reducible refine wpList_isOp (.store 24 (.tmp 5) (.tmp 10)) rfl ?_); refine wpList_storing _ w4 rfl 24 (.tmp 5) (.tmp 10) rfl (.agg (bkC o)) ⟨H3, 0, none⟩ rfl rfl (by exact H4.out.st) ?_))
      go_ret
      exact ⟨ret_int HCL.out.symm, HC.out⟩)
  · have hop : opensB n z = false := by simpa using hop
    have HCL := Lib.hid (classOf_no (want := want) hop)
    have hE : openE n z ≠ 0 := fun e => by rw [openE_zero, hop] at e; cases e
    obtain ⟨E, hEE⟩ : ∃ E, E = openE n z := ⟨_, rfl⟩
    rw [← hEE] at hE ⊢
    have t2 : (E != 0) = true := by simpa using hE
    clear hop hE hEE
    go_wp2_with (first
      | ((with_reducible refine wpList_isOp (.alloc 24) rfl ?_); refine wpList_making _ w3 rfl 24 rfl (bkC bk0) H3 (zero_bk _) (by exact HZ3.out.sz) (by exact HZ3.out.al) ?_)
      | ((with_reducible refine wpList_isOp (.store 24 (.tmp 5) (.tmp 10)) rfl ?_); refine wpList_storing _ w4 rfl 24 (.tmp 5) (.tmp 10) rfl (.agg (bkC o)) ⟨H3, 0, none⟩ rfl rfl (by exact H4.out.st) ?_))
    go_ret
    exact ⟨ret_int HCL.out.symm, HC.out⟩
#print axioms rclass_any

/-! ### Same -/
set_option maxHeartbeats 3200000 in
set_option maxRecDepth 100000 in
theorem sameB_any (a b : Bk) (w : World) (ha : BkIs w a) (hb : BkIs w b) : Calls Try.prog 16 #[.agg (bkC a), .agg (bkC b)] w (Ans (.bool (likeB a b)) w) := by
  obtain ⟨A, CA, hVa, _⟩ := id ha.row
  obtain ⟨B, CB, hVb, _⟩ := id hb.row
  obtain ⟨w1, H, hR⟩ := bkR w a
  obtain ⟨w2, G, hS⟩ := bkR w1 b
  have hx : w2.heap[H]? = some (.cells (bkC a) 24 (0, 0)) := (hS.ch.block H (blk_lt (o := .cells (bkC a) 24 (0, 0)) hR.cx) (fun f => f)).trans hR.cx
  have a0 : w2.cell? ⟨H, 0, none⟩ = some (.int .i64 a.kind) := blk_cell hx
  have a1 : w2.cell? ⟨H, 1, none⟩ = some (.int .i64 a.vol) := blk_cell hx
  have a2 : w2.cell? ⟨H, 2, none⟩ = some (.int .i64 a.addr) := blk_cell hx
  have a3 : w2.cell? ⟨H, 3, none⟩ = some (.int .i64 a.epoch) := blk_cell hx
  have a4 : w2.cell? ⟨H, 4, none⟩ = some (.int .i64 a.seq) := blk_cell hx
  have a5 : w2.cell? ⟨H, 5, none⟩ = some (.slice A a.len CA) := by rw [← hVa]; exact blk_cell hx
  have b0 : w2.cell? ⟨G, 0, none⟩ = some (.int .i64 b.kind) := blk_cell hS.cx
  have b1 : w2.cell? ⟨G, 1, none⟩ = some (.int .i64 b.vol) := blk_cell hS.cx
  have b2 : w2.cell? ⟨G, 2, none⟩ = some (.int .i64 b.addr) := blk_cell hS.cx
  have b3 : w2.cell? ⟨G, 3, none⟩ = some (.int .i64 b.epoch) := blk_cell hS.cx
  have b4 : w2.cell? ⟨G, 4, none⟩ = some (.int .i64 b.seq) := blk_cell hS.cx
  have b5 : w2.cell? ⟨G, 5, none⟩ = some (.slice B b.len CB) := by rw [← hVb]; exact blk_cell hS.cx
  have HRA := Lib.hid (show RowV w2 (.slice A a.len CA) a.len a.z by
    have h := ha.row.gr (hR.ch.trans hS.ch)
    rw [hVa] at h
    exact h)
  have HRB := Lib.hid (show RowV w2 (.slice B b.len CB) b.len b.z by
    have h := hb.row.gr (hR.ch.trans hS.ch)
    rw [hVb] at h
    exact h)
  have HC := Lib.hid (hR.ch.trans hS.ch)
  have HR := Lib.hid hR
  have HS := Lib.hid hS
  obtain ⟨q0, hq0⟩ : ∃ q, eqB a.len b.len a.z b.z = q := ⟨_, rfl⟩
  have HQ0 := Lib.hid hq0
  have beq_dec : ∀ x y : Int, (x == y) = decide (x = y) := fun x y => by
    by_cases h : x = y <;> simp [h]
  obtain ⟨q1, hq1⟩ : ∃ q, (a.kind == b.kind) = q := ⟨_, rfl⟩
  obtain ⟨q2, hq2⟩ : ∃ q, (a.vol == b.vol) = q := ⟨_, rfl⟩
  obtain ⟨q3, hq3⟩ : ∃ q, (a.addr == b.addr) = q := ⟨_, rfl⟩
  obtain ⟨q4, hq4⟩ : ∃ q, (a.epoch == b.epoch) = q := ⟨_, rfl⟩
  obtain ⟨q5, hq5⟩ : ∃ q, (a.seq == b.seq) = q := ⟨_, rfl⟩
  have HL := Lib.hid (show likeB a b = (q0 && (q1 && (q2 && (q3 && (q4 && q5))))) by
    unfold likeB
    rw [hq0, ← beq_dec, ← beq_dec, ← beq_dec, ← beq_dec, ← beq_dec, hq1, hq2, hq3, hq4, hq5])
  clear hR hS hx ha hb hVa hVb hq0 beq_dec
  go_enter Try.func16, Try.ntmps16
  go_wp2_with (first
    | ((with_reducible refine wpList_isOp (.box 24 (.tmp 0)) rfl ?_); refine wpList_boxing _ w1 rfl 24 (.tmp 0) rfl (bkC a) H rfl (by exact HR.out.sz) (by exact HR.out.al) ?_)
    | ((with_reducible refine wpList_isOp (.box 24 (.tmp 1)) rfl ?_); refine wpList_boxing _ w2 rfl 24 (.tmp 1) rfl (bkC b) G rfl (by exact HS.out.sz) (by exact HS.out.al) ?_))
  refine (same_any _ _ _ _ _ _ _ _ _ HRA.out HRB.out).mono ?_
  rintro e w3 ⟨rfl, d, rfl⟩
  rw [HQ0.out]
  have HC3 := Lib.hid (HC.out.drewN d)
  cases q0
  case false => go_wp2; go_ret; exact ⟨ret_bool HL.out.symm, HC3.out⟩
  cases q1
  case false => go_wp2; go_ret; exact ⟨ret_bool HL.out.symm, HC3.out⟩
  cases q2
  case false => go_wp2; go_ret; exact ⟨ret_bool HL.out.symm, HC3.out⟩
  cases q3
  case false => go_wp2; go_ret; exact ⟨ret_bool HL.out.symm, HC3.out⟩
  cases q4
  case false => go_wp2; go_ret; exact ⟨ret_bool HL.out.symm, HC3.out⟩
  all_goals (cases q5)
  all_goals (go_wp2; go_ret; exact ⟨ret_bool HL.out.symm, HC3.out⟩)
#print axioms sameB_any
end Go.Proofs.Ytennkpjmdhidaaa
