/-
  block.Class, walked.
-/
import Derived.Test.YtennkpjmdhidaaaBlkH
namespace Go.Proofs.Ytennkpjmdhidaaa
open Go.RowKit
set_option linter.unusedVariables false

def classQ (q1 q2 q3 q4 q5 : Bool) : Int := if q1 || q2 then 3 else if q3 || q4 || q5 then 2 else 1
theorem classOf_no {n : Nat} {z : Nat → Nat} {want : Bk} (h : opensB n z = false) : classOf n z want = 4 := by unfold classOf; rw [h]; rfl
theorem classOf_yes {n : Nat} {z : Nat → Nat} {want o : Bk} (h : opensB n z = true) (V : Value) (ho : o = readB V z) : classOf n z want = classQ (o.vol != want.vol) (o.addr != want.addr) (o.kind != want.kind) (o.epoch != want.epoch) (o.seq != want.seq) := by
  subst ho
  unfold classOf classQ
  rw [if_pos h]
  show (if (readB V z).vol = want.vol ∧ (readB V z).addr = want.addr then _ else _) = _
  by_cases h1 : (readB V z).vol = want.vol
  · by_cases h2 : (readB V z).addr = want.addr
    · rw [if_pos ⟨h1, h2⟩]
      show (if (readB V z).kind = want.kind ∧ (readB V z).epoch = want.epoch ∧ (readB V z).seq = want.seq then _ else _) = _
      by_cases h3 : (readB V z).kind = want.kind
      · by_cases h4 : (readB V z).epoch = want.epoch
        · by_cases h5 : (readB V z).seq = want.seq
          · rw [if_pos ⟨h3, h4, h5⟩]; simp [h1, h2, h3, h4, h5]
          · rw [if_neg (fun q => h5 q.2.2)]; simp [h1, h2, h3, h4, h5]
        · rw [if_neg (fun q => h4 q.2.1)]; simp [h1, h2, h3, h4]
      · rw [if_neg (fun q => h3 q.1)]; simp [h1, h2, h3]
    · rw [if_neg (fun q => h2 q.2)]; simp [h1, h2]
  · rw [if_neg (fun q => h1 q.1)]; simp [h1]
theorem openE_zero {n : Nat} {z : Nat → Nat} : openE n z = 0 ↔ opensB n z = true := by
  unfold openE
  by_cases h : n = 256
  · subst h
    rw [if_pos rfl]
    cases opensB 256 z <;> simp
  · rw [if_neg h, opensB_long z h]
    simp
set_option maxHeartbeats 3200000 in
set_option maxRecDepth 100000 in
theorem class_any (A : Option Addr) (n C : Nat) (z : Nat → Nat) (want : Bk) (w : World) (h : RowV w (.slice A n C) n z) : Calls Try.prog 17 #[.slice A n C, .agg (bkC want)] w (Ans (.int .i64 (classOf n z want)) w) := by
  obtain ⟨w1, H, hR⟩ := bkR w want
  have HR := Lib.hid hR
  have HV1 := Lib.hid (h.gr hR.ch)
  clear hR h
  go_enter Try.func17, Try.ntmps17
  go_wp2_with ((with_reducible refine wpList_isOp (.box 24 (.tmp 1)) rfl ?_); refine wpList_boxing _ w1 rfl 24 (.tmp 1) rfl (bkC want) H rfl (by exact HR.out.sz) (by exact HR.out.al) ?_)
  refine (open_any A n C z _ HV1.out).mono ?_
  rintro e w2 ⟨V, rfl, hb2, hc2⟩
  obtain ⟨o, ho⟩ : ∃ o, o = openB n z V := ⟨_, rfl⟩
  rw [← ho] at hb2 ⊢
  obtain ⟨w3, H3, hZ3⟩ := zeR w2
  have hoV : ∃ A n C, o.V = .slice A n C := by
    obtain ⟨A', C', e, _⟩ := hb2.row
    exact ⟨_, _, _, e⟩
  obtain ⟨w4, h4⟩ := stR (b := o) hZ3.cx hoV
  have hc4 : Ch (fun _ => False) w2 w4 := hZ3.ch.over h4.ch (by rw [hZ3.sz]; exact Nat.le_refl _)
  have hx : w4.heap[H]? = some (.cells (bkC want) 24 (0, 0)) := ((hc2.trans hc4).block H (blk_lt (o := .cells (bkC want) 24 (0, 0)) HR.out.cx) (fun f => f)).trans HR.out.cx
  have a0 : w4.cell? ⟨H, 0, none⟩ = some (.int .i64 want.kind) := blk_cell hx
  have a1 : w4.cell? ⟨H, 1, none⟩ = some (.int .i64 want.vol) := blk_cell hx
  have a2 : w4.cell? ⟨H, 2, none⟩ = some (.int .i64 want.addr) := blk_cell hx
  have a3 : w4.cell? ⟨H, 3, none⟩ = some (.int .i64 want.epoch) := blk_cell hx
  have a4 : w4.cell? ⟨H, 4, none⟩ = some (.int .i64 want.seq) := blk_cell hx
  have c0 : w4.cell? ⟨H3, 0, none⟩ = some (.int .i64 o.kind) := blk_cell h4.cx
  have c1 : w4.cell? ⟨H3, 1, none⟩ = some (.int .i64 o.vol) := blk_cell h4.cx
  have c2 : w4.cell? ⟨H3, 2, none⟩ = some (.int .i64 o.addr) := blk_cell h4.cx
  have c3 : w4.cell? ⟨H3, 3, none⟩ = some (.int .i64 o.epoch) := blk_cell h4.cx
  have c4 : w4.cell? ⟨H3, 4, none⟩ = some (.int .i64 o.seq) := blk_cell h4.cx
  have HC := Lib.hid (HR.out.ch.trans (hc2.trans hc4))
  have HZ3 := Lib.hid hZ3
  have H4 := Lib.hid h4
  have HO := Lib.hid ho
  clear hb2 hc2 hc4 hZ3 h4 hx hoV ho
  by_cases hop : opensB n z = true
  · have hE : openE n z = 0 := openE_zero.2 hop
    rw [hE]
    have hcl := classOf_yes (want := want) hop V (HO.out.trans (openB_yes hop V))
    obtain ⟨q1, hq1⟩ : ∃ q, (o.vol != want.vol) = q := ⟨_, rfl⟩
    obtain ⟨q2, hq2⟩ : ∃ q, (o.addr != want.addr) = q := ⟨_, rfl⟩
    obtain ⟨q3, hq3⟩ : ∃ q, (o.kind != want.kind) = q := ⟨_, rfl⟩
    obtain ⟨q4, hq4⟩ : ∃ q, (o.epoch != want.epoch) = q := ⟨_, rfl⟩
    obtain ⟨q5, hq5⟩ : ∃ q, (o.seq != want.seq) = q := ⟨_, rfl⟩
    rw [hq1, hq2, hq3, hq4, hq5] at hcl
    have HCL := Lib.hid hcl
    clear hop hE hcl
    cases q1
    case true =>
      go_wp2_with (first
        | ((with_reducible refine wpList_isOp (.alloc 24) rfl ?_); refine wpList_making _ w3 rfl 24 rfl (bkC bk0) H3 (zero_bk _) (by exact HZ3.out.sz) (by exact HZ3.out.al) ?_)
        | ((with_reducible refine wpList_isOp (.store 24 (.tmp 5) (.tmp 10)) rfl ?_); refine wpList_storing _ w4 rfl 24 (.tmp 5) (.tmp 10) rfl (.agg (bkC o)) ⟨H3, 0, none⟩ rfl rfl (by exact H4.out.st) ?_))
      go_ret
      exact ⟨ret_int HCL.out.symm, HC.out⟩
    cases q2
    case true =>
      go_wp2_with (first
        | ((with_reducible refine wpList_isOp (.alloc 24) rfl ?_); refine wpList_making _ w3 rfl 24 rfl (bkC bk0) H3 (zero_bk _) (by exact HZ3.out.sz) (by exact HZ3.out.al) ?_)
        | ((with_reducible refine wpList_isOp (.store 24 (.tmp 5) (.tmp 10)) rfl ?_); refine wpList_storing _ w4 rfl 24 (.tmp 5) (.tmp 10) rfl (.agg (bkC o)) ⟨H3, 0, none⟩ rfl rfl (by exact H4.out.st) ?_))
      go_ret
      exact ⟨ret_int HCL.out.symm, HC.out⟩
    cases q3
    case true =>
      go_wp2_with (first
        | ((with_reducible refine wpList_isOp (.alloc 24) rfl ?_); refine wpList_making _ w3 rfl 24 rfl (bkC bk0) H3 (zero_bk _) (by exact HZ3.out.sz) (by exact HZ3.out.al) ?_)
        | ((with_reducible refine wpList_isOp (.store 24 (.tmp 5) (.tmp 10)) rfl ?_); refine wpList_storing _ w4 rfl 24 (.tmp 5) (.tmp 10) rfl (.agg (bkC o)) ⟨H3, 0, none⟩ rfl rfl (by exact H4.out.st) ?_))
      go_ret
      exact ⟨ret_int HCL.out.symm, HC.out⟩
    cases q4
    case true =>
      go_wp2_with (first
        | ((with_reducible refine wpList_isOp (.alloc 24) rfl ?_); refine wpList_making _ w3 rfl 24 rfl (bkC bk0) H3 (zero_bk _) (by exact HZ3.out.sz) (by exact HZ3.out.al) ?_)
        | ((with_reducible refine wpList_isOp (.store 24 (.tmp 5) (.tmp 10)) rfl ?_); refine wpList_storing _ w4 rfl 24 (.tmp 5) (.tmp 10) rfl (.agg (bkC o)) ⟨H3, 0, none⟩ rfl rfl (by exact H4.out.st) ?_))
      go_ret
      exact ⟨ret_int HCL.out.symm, HC.out⟩
    all_goals (cases q5)
    all_goals (
      go_wp2_with (first
        | ((with_reducible refine wpList_isOp (.alloc 24) rfl ?_); refine wpList_making _ w3 rfl 24 rfl (bkC bk0) H3 (zero_bk _) (by exact HZ3.out.sz) (by exact HZ3.out.al) ?_)
        | ((with_reducible refine wpList_isOp (.store 24 (.tmp 5) (.tmp 10)) rfl ?_); refine wpList_storing _ w4 rfl 24 (.tmp 5) (.tmp 10) rfl (.agg (bkC o)) ⟨H3, 0, none⟩ rfl rfl (by exact H4.out.st) ?_))
      go_ret
      exact ⟨ret_int HCL.out.symm, HC.out⟩)
  · have hop : opensB n z = false := by simpa using hop
    have HCL := Lib.hid (classOf_no (want := want) hop)
    have hE : openE n z ≠ 0 := fun e => by rw [openE_zero, hop] at e; cases e
    obtain ⟨E, hEE⟩ : ∃ E, E = openE n z := ⟨_, rfl⟩
    rw [← hEE] at hE ⊢
    have t2 : (E != 0) = true := by simpa using hE
    clear hop hE hEE
    go_wp2_with (first
      | ((with_reducible refine wpList_isOp (.alloc 24) rfl ?_); refine wpList_making _ w3 rfl 24 rfl (bkC bk0) H3 (zero_bk _) (by exact HZ3.out.sz) (by exact HZ3.out.al) ?_)
      | ((with_reducible refine wpList_isOp (.store 24 (.tmp 5) (.tmp 10)) rfl ?_); refine wpList_storing _ w4 rfl 24 (.tmp 5) (.tmp 10) rfl (.agg (bkC o)) ⟨H3, 0, none⟩ rfl rfl (by exact H4.out.st) ?_))
    go_ret
    exact ⟨ret_int HCL.out.symm, HC.out⟩
#print axioms class_any
end Go.Proofs.Ytennkpjmdhidaaa
