/-
  BlockApart, walked.
-/
import Derived.Test.YtennkpjmdhidaaaBlkL1
namespace Go.Proofs.Ytennkpjmdhidaaa
open Go.RowKit
set_option linter.unusedVariables false

theorem ne_dec (x y : Int) : (x != y) = !(x == y) := rfl
set_option maxHeartbeats 6400000 in
set_option maxRecDepth 100000 in
theorem blockApart_of (b c : Bk) (w : World) (hb : BkIs w b) (hc : BkIs w c) : Calls Try.prog 7 #[.agg (bkC b), .agg (bkC c)] w (Told w) := by
  obtain ⟨A, C, hV, hl⟩ := hb.len
  obtain ⟨w1, H, hR⟩ := bkR w b
  obtain ⟨wg, G, hS⟩ := bkR w1 c
  have HBG := Lib.hid (hb.gr (hR.ch.trans hS.ch))
  have HV := Lib.hid hV
  have HXG := Lib.hid (block_stays hR.cx hS.ch)
  have HYG := Lib.hid hS.cx
  have HCG := Lib.hid (hR.ch.trans hS.ch)
  have HR := Lib.hid hR
  have HS := Lib.hid hS
  clear hb hc hR hS hV
  go_enter Try.func7, Try.ntmps7
  go_wp2_with (first
    | ((with_reducible refine wpList_isOp (.box 24 (.tmp 0)) rfl ?_); refine wpList_boxing _ w1 rfl 24 (.tmp 0) rfl (bkC b) H rfl (by exact HR.out.sz) (by exact HR.out.al) ?_)
    | ((with_reducible refine wpList_isOp (.box 24 (.tmp 1)) rfl ?_); refine wpList_boxing _ wg rfl 24 (.tmp 1) rfl (bkC c) G rfl (by exact HS.out.sz) (by exact HS.out.al) ?_))
  refine (awake_any _).mono ?_
  rintro e w2 ⟨rfl, hc2⟩
  have HX2 := Lib.hid (block_stays HXG.out hc2)
  have HY2 := Lib.hid (block_stays HYG.out hc2)
  have HL2 := Lib.hid (load_bk HX2.out)
  have HB2 := Lib.hid (HBG.out.gr hc2)
  have HC2 := Lib.hid (HCG.out.trans hc2)
  have d0 : w2.cell? ⟨H, 0, none⟩ = some (.int .i64 b.kind) := blk_cell HX2.out
  have d1 : w2.cell? ⟨H, 1, none⟩ = some (.int .i64 b.vol) := blk_cell HX2.out
  have d2 : w2.cell? ⟨H, 2, none⟩ = some (.int .i64 b.addr) := blk_cell HX2.out
  have d3 : w2.cell? ⟨H, 3, none⟩ = some (.int .i64 b.epoch) := blk_cell HX2.out
  have d4 : w2.cell? ⟨H, 4, none⟩ = some (.int .i64 b.seq) := blk_cell HX2.out
  have d5 : w2.cell? ⟨H, 5, none⟩ = some b.V := blk_cell HX2.out
  clear hc2
  go_wp2_with fail
  refine (may_any b A C _ HV.out hl).mono ?_
  rintro e w3 ⟨rfl, hc3⟩
  have HX3 := Lib.hid (block_stays HX2.out hc3)
  have HY3 := Lib.hid (block_stays HY2.out hc3)
  have HL3 := Lib.hid (load_bk HX3.out)
  have HB3 := Lib.hid (HB2.out.gr hc3)
  have HC3 := Lib.hid (HC2.out.trans hc3)
  clear hc3 d0 d1 d2 d3 d4 d5
  by_cases hm : mayB b = true
  case neg =>
    have hm : mayB b = false := by simpa using hm
    rw [hm]
    go_wp2
    go_ret
    exact ⟨rfl, HC3.out⟩
  rw [hm]
  have HM := Lib.hid hm
  have hN : sealN b = 256 := by unfold sealN; rw [hm]; rfl
  have hE : sealE b = 0 := of_decide_eq_true (by rw [← sealE_may]; exact hm)
  clear hm
  go_wp2_with ((with_reducible refine wpList_isOp (.load 24 (.tmp 2)) rfl ?_); refine wpList_loading _ rfl 24 (.tmp 2) rfl (.agg (bkC b)) ⟨H, 0, none⟩ rfl (by exact HL3.out) ?_)
  refine (bseal_any b A C _ HV.out HB3.out).mono ?_
  rintro e w4 ⟨A4, C4, rfl, ho4, hc4⟩
  rw [hN] at ho4
  rw [hN, hE]
  have HX4 := Lib.hid (block_stays HX3.out hc4)
  have HY4 := Lib.hid (block_stays HY3.out hc4)
  have HL4 := Lib.hid (load_bk HY4.out)
  have HC4 := Lib.hid (HC3.out.trans hc4)
  have HS4 := Lib.hid (ownsRow_rowV ho4 (by omega) (sectZ_b HB3.out.row.bytes _))
  clear ho4 hc4 hN hE
  go_wp2_with ((with_reducible refine wpList_isOp (.load 24 (.tmp 3)) rfl ?_); refine wpList_loading _ rfl 24 (.tmp 3) rfl (.agg (bkC c)) ⟨G, 0, none⟩ rfl (by exact HL4.out) ?_)
  refine (class_any A4 256 C4 (sectZ b) c _ HS4.out).mono ?_
  rintro e w5 ⟨rfl, hc5⟩
  rw [class_own HM.out]
  have hx := block_stays HX4.out hc5
  have hy := block_stays HY4.out hc5
  have d0 : w5.cell? ⟨H, 0, none⟩ = some (.int .i64 b.kind) := blk_cell hx
  have d1 : w5.cell? ⟨H, 1, none⟩ = some (.int .i64 b.vol) := blk_cell hx
  have d2 : w5.cell? ⟨H, 2, none⟩ = some (.int .i64 b.addr) := blk_cell hx
  have d3 : w5.cell? ⟨H, 3, none⟩ = some (.int .i64 b.epoch) := blk_cell hx
  have d4 : w5.cell? ⟨H, 4, none⟩ = some (.int .i64 b.seq) := blk_cell hx
  have e0 : w5.cell? ⟨G, 0, none⟩ = some (.int .i64 c.kind) := blk_cell hy
  have e1 : w5.cell? ⟨G, 1, none⟩ = some (.int .i64 c.vol) := blk_cell hy
  have e2 : w5.cell? ⟨G, 2, none⟩ = some (.int .i64 c.addr) := blk_cell hy
  have e3 : w5.cell? ⟨G, 3, none⟩ = some (.int .i64 c.epoch) := blk_cell hy
  have e4 : w5.cell? ⟨G, 4, none⟩ = some (.int .i64 c.seq) := blk_cell hy
  have HC5 := Lib.hid (HC4.out.trans hc5)
  rw [ne_dec, ne_dec, ne_dec, ne_dec, ne_dec]
  obtain ⟨q1, hq1⟩ : ∃ q, (b.vol == c.vol) = q := ⟨_, rfl⟩
  obtain ⟨q2, hq2⟩ : ∃ q, (b.addr == c.addr) = q := ⟨_, rfl⟩
  obtain ⟨q3, hq3⟩ : ∃ q, (b.kind == c.kind) = q := ⟨_, rfl⟩
  obtain ⟨q4, hq4⟩ : ∃ q, (b.epoch == c.epoch) = q := ⟨_, rfl⟩
  obtain ⟨q5, hq5⟩ : ∃ q, (b.seq == c.seq) = q := ⟨_, rfl⟩
  rw [hq1, hq2, hq3, hq4, hq5]
  clear hc5 hx hy
  obtain ⟨k, hk⟩ : ∃ k, k = classQ (!q1) (!q2) (!q3) (!q4) (!q5) := ⟨_, rfl⟩
  have HK := Lib.hid hk
  rw [← hk]
  clear hk
  cases q1
  case false => obtain rfl : k = 3 := HK.out; go_wp2; go_ret; exact ⟨rfl, HC5.out⟩
  cases q2
  case false => obtain rfl : k = 3 := HK.out; go_wp2; go_ret; exact ⟨rfl, HC5.out⟩
  cases q3
  case false => obtain rfl : k = 2 := HK.out; go_wp2; go_ret; exact ⟨rfl, HC5.out⟩
  cases q4
  case false => obtain rfl : k = 2 := HK.out; go_wp2; go_ret; exact ⟨rfl, HC5.out⟩
  cases q5
  case false => obtain rfl : k = 2 := HK.out; go_wp2; go_ret; exact ⟨rfl, HC5.out⟩
  obtain rfl : k = 1 := HK.out
  go_wp2
  go_ret
  exact ⟨rfl, HC5.out⟩
#print axioms blockApart_of
end Go.Proofs.Ytennkpjmdhidaaa
