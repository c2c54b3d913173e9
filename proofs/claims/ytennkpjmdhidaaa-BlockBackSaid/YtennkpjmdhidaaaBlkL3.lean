/-
  BlockBack, walked.
-/
import Derived.Test.YtennkpjmdhidaaaBlkL1
namespace Go.Proofs.Ytennkpjmdhidaaa
open Go.RowKit
set_option linter.unusedVariables false

set_option maxHeartbeats 3200000 in
set_option maxRecDepth 100000 in
theorem blockBack_of (b : Bk) (w : World) (hb : BkIs w b) : Calls Try.prog 5 #[.agg (bkC b)] w (Told w) := by
  obtain ⟨A, C, hV, hl⟩ := hb.len
  obtain ⟨w1, H, hR⟩ := bkR w b
  have HB1 := Lib.hid (hb.gr hR.ch)
  have HV := Lib.hid hV
  have HX1 := Lib.hid hR.cx
  have HR := Lib.hid hR
  clear hb hR hV
  go_enter Try.func5, Try.ntmps5
  go_wp2_with ((with_reducible refine wpList_isOp (.box 24 (.tmp 0)) rfl ?_); refine wpList_boxing _ w1 rfl 24 (.tmp 0) rfl (bkC b) H rfl (by exact HR.out.sz) (by exact HR.out.al) ?_)
  refine (awake_any _).mono ?_
  rintro e w2 ⟨rfl, hc2⟩
  have HX2 := Lib.hid (block_stays HX1.out hc2)
  have x5 : w2.cell? ⟨H, 5, none⟩ = some (.slice A b.len C) := by rw [← HV.out]; exact blk_cell HX2.out
  have HL2 := Lib.hid (load_bk HX2.out)
  have HB2 := Lib.hid (HB1.out.gr hc2)
  have HC2 := Lib.hid (HR.out.ch.trans hc2)
  clear hc2
  by_cases hbig : b.len ≤ 2000
  case neg =>
    have t1 : decide ((2000 : Int) < (b.len : Int)) = true := by simp; omega
    go_wp2
    go_ret
    exact ⟨rfl, HC2.out⟩
  have t1 : decide ((2000 : Int) < (b.len : Int)) = false := by simp; omega
  go_wp2_with ((with_reducible refine wpList_isOp (.load 24 (.tmp 1)) rfl ?_); refine wpList_loading _ rfl 24 (.tmp 1) rfl (.agg (bkC b)) ⟨H, 0, none⟩ rfl (by exact HL2.out) ?_)
  refine (bseal_any b A C _ HV.out HB2.out).mono ?_
  rintro e w3 ⟨A3, C3, rfl, ho3, hc3⟩
  have HX3 := Lib.hid (block_stays HX2.out hc3)
  have HL3 := Lib.hid (load_bk HX3.out)
  have HB3 := Lib.hid (HB2.out.gr hc3)
  have HC3 := Lib.hid (HC2.out.trans hc3)
  have HS3 := Lib.hid (ownsRow_rowV ho3 (by have := sealN_le b; omega) (sectZ_b HB2.out.row.bytes _))
  clear ho3 hc3 x5
  by_cases hm : mayB b = true
  case neg =>
    have hm : mayB b = false := by simpa using hm
    have hN : sealN b = 0 := by unfold sealN; rw [hm]; rfl
    have hE : sealE b ≠ 0 := fun e => by
      have := sealE_may (b := b)
      rw [hm, e] at this
      cases this
    have HM := Lib.hid hm
    obtain ⟨E, hEE⟩ : ∃ E, E = sealE b := ⟨_, rfl⟩
    rw [← hEE] at hE ⊢
    have t2 : (E != 0) = true := by simpa using hE
    rw [hN]
    clear hm hN hE hEE HS3
    go_wp2_with ((with_reducible refine wpList_isOp (.load 24 (.tmp 1)) rfl ?_); refine wpList_loading _ rfl 24 (.tmp 1) rfl (.agg (bkC b)) ⟨H, 0, none⟩ rfl (by exact HL3.out) ?_)
    refine (may_any b A C _ HV.out hl).mono ?_
    rintro e w4 ⟨rfl, hc4⟩
    rw [HM.out]
    have HC4 := Lib.hid (HC3.out.trans hc4)
    clear hc4
    go_wp2
    go_ret
    exact ⟨rfl, HC4.out⟩
  have hN : sealN b = 256 := by unfold sealN; rw [hm]; rfl
  have hE : sealE b = 0 := of_decide_eq_true (by rw [← sealE_may]; exact hm)
  rw [hN] at HS3
  rw [hN, hE]
  have HM := Lib.hid hm
  clear hm hN hE
  go_wp2_with ((with_reducible refine wpList_isOp (.load 24 (.tmp 1)) rfl ?_); refine wpList_loading _ rfl 24 (.tmp 1) rfl (.agg (bkC b)) ⟨H, 0, none⟩ rfl (by exact HL3.out) ?_)
  refine (may_any b A C _ HV.out hl).mono ?_
  rintro e w4 ⟨rfl, hc4⟩
  rw [HM.out]
  have HX4 := Lib.hid (block_stays HX3.out hc4)
  have HC4 := Lib.hid (HC3.out.trans hc4)
  have HB4 := Lib.hid (HB3.out.gr hc4)
  have HS4 := Lib.hid (HS3.out.gr hc4)
  clear hc4
  go_wp2_with fail
  refine (open_any A3 256 C3 (sectZ b) _ HS4.out).mono ?_
  rintro e w5 ⟨V, rfl, hb5, hc5⟩
  rw [openE_own HM.out]
  obtain ⟨r, hr⟩ : ∃ r, r = openB 256 (sectZ b) V := ⟨_, rfl⟩
  rw [← hr] at hb5 ⊢
  have HLK := Lib.hid (show likeB b r = true by rw [hr, openB_yes (opensB_own HM.out)]; exact (back HM.out V).like)
  obtain ⟨w6, H6, hZ6⟩ := zeR w5
  obtain ⟨AV, CV, hrV, _⟩ := hb5.len
  obtain ⟨w7, h7⟩ := stR (b := r) hZ6.cx ⟨_, _, _, hrV⟩
  have hc7 : Ch (fun _ => False) w5 w7 := hZ6.ch.over h7.ch (by rw [hZ6.sz]; exact Nat.le_refl _)
  have HX7 := Lib.hid (block_stays HX4.out (hc5.trans hc7))
  have HL7 := Lib.hid (load_bk HX7.out)
  have HY7 := Lib.hid (load_bk h7.cx)
  have HS7 := Lib.hid (HS4.out.gr (hc5.trans hc7))
  have HC7 := Lib.hid (HC4.out.trans (hc5.trans hc7))
  have HB7 := Lib.hid (HB4.out.gr (hc5.trans hc7))
  have HBR := Lib.hid (hb5.gr hc7)
  have HZ6 := Lib.hid hZ6
  have H7 := Lib.hid h7
  clear hb5 hZ6 h7 hc5 hc7 hr
  go_wp2_with (first
    | ((with_reducible refine wpList_isOp (.alloc 24) rfl ?_); refine wpList_making _ w6 rfl 24 rfl (bkC bk0) H6 (zero_bk _) (by exact HZ6.out.sz) (by exact HZ6.out.al) ?_)
    | ((with_reducible refine wpList_isOp (.store 24 (.tmp 6) (.tmp 37)) rfl ?_); refine wpList_storing _ w7 rfl 24 (.tmp 6) (.tmp 37) rfl (.agg (bkC r)) ⟨H6, 0, none⟩ rfl rfl (by exact H7.out.st) ?_)
    | ((with_reducible refine wpList_isOp (.load 24 (.tmp 1)) rfl ?_); refine wpList_loading _ rfl 24 (.tmp 1) rfl (.agg (bkC b)) ⟨H, 0, none⟩ rfl (by exact HL7.out) ?_)
    | ((with_reducible refine wpList_isOp (.load 24 (.tmp 6)) rfl ?_); refine wpList_loading _ rfl 24 (.tmp 6) rfl (.agg (bkC r)) ⟨H6, 0, none⟩ rfl (by exact HY7.out) ?_))
  refine (sameB_any b r _ HB7.out HBR.out).mono ?_
  rintro e w8 ⟨rfl, hc8⟩
  rw [HLK.out]
  have HX8 := Lib.hid (block_stays HX7.out hc8)
  have HL8 := Lib.hid (load_bk HX8.out)
  have HC8 := Lib.hid (HC7.out.trans hc8)
  have HS8 := Lib.hid (HS7.out.gr hc8)
  clear hc8
  have d0 : w8.cell? ⟨H, 0, none⟩ = some (.int .i64 b.kind) := blk_cell HX8.out
  have d1 : w8.cell? ⟨H, 1, none⟩ = some (.int .i64 b.vol) := blk_cell HX8.out
  have d2 : w8.cell? ⟨H, 2, none⟩ = some (.int .i64 b.addr) := blk_cell HX8.out
  have d3 : w8.cell? ⟨H, 3, none⟩ = some (.int .i64 b.epoch) := blk_cell HX8.out
  have d4 : w8.cell? ⟨H, 4, none⟩ = some (.int .i64 b.seq) := blk_cell HX8.out
  have d5 : w8.cell? ⟨H, 5, none⟩ = some b.V := blk_cell HX8.out
  go_wp2_with fail
  refine (class_any A3 256 C3 (sectZ b) b _ HS8.out).mono ?_
  rintro e w9 ⟨rfl, hc9⟩
  rw [class_self HM.out rfl rfl rfl rfl rfl]
  have HC9 := Lib.hid (HC8.out.trans hc9)
  clear hc9
  go_wp2
  go_ret
  exact ⟨rfl, HC9.out⟩
#print axioms blockBack_of
end Go.Proofs.Ytennkpjmdhidaaa
