/-
  BlockSeals and BlockOpens, walked.
-/
import Derived.Test.YtennkpjmdhidaaaBlkW
namespace Go.Proofs.Ytennkpjmdhidaaa
open Go.RowKit
set_option linter.unusedVariables false

theorem block_stays {w w' : World} {H : Nat} {b : Bk} (h : w.heap[H]? = some (.cells (bkC b) 24 (0, 0))) (k : Ch (fun _ => False) w w') : w'.heap[H]? = some (.cells (bkC b) 24 (0, 0)) := (k.block H (blk_lt h) (fun f => f)).trans h
theorem BkIs.len {w : World} {b : Bk} (h : BkIs w b) : ∃ A C, b.V = .slice A b.len C ∧ b.len ≤ 140737488351232 := by
  obtain ⟨A, C, e, h2, _⟩ := h.row
  exact ⟨A, C, e, h2.1⟩
theorem sealN_le (b : Bk) : sealN b ≤ 256 := by unfold sealN; split <;> omega
set_option maxHeartbeats 3200000 in
set_option maxRecDepth 100000 in
theorem blockSeals_of (b : Bk) (w : World) (hb : BkIs w b) : Calls Try.prog 3 #[.agg (bkC b)] w (Told w) := by
  obtain ⟨A, C, hV, hl⟩ := hb.len
  obtain ⟨w1, H, hR⟩ := bkR w b
  have HB1 := Lib.hid (hb.gr hR.ch)
  have HV := Lib.hid hV
  have HX1 := Lib.hid hR.cx
  have HR := Lib.hid hR
  clear hb hR hV
  go_enter Try.func3, Try.ntmps3
  go_wp2_with ((with_reducible refine wpList_isOp (.box 24 (.tmp 0)) rfl ?_); refine wpList_boxing _ w1 rfl 24 (.tmp 0) rfl (bkC b) H rfl (by exact HR.out.sz) (by exact HR.out.al) ?_)
  refine (awake_any _).mono ?_
  rintro e w2 ⟨rfl, hc2⟩
  have HX2 := Lib.hid (block_stays HX1.out hc2)
  have x5 : w2.cell? ⟨H, 5, none⟩ = some (.slice A b.len C) := by rw [← HV.out]; exact blk_cell HX2.out
  have HL2 := Lib.hid (load_bk HX2.out)
  have HB2 := Lib.hid (HB1.out.gr hc2)
  have HC2 := Lib.hid (HR.out.ch.trans hc2)
  clear hc2
  by_cases hbig : b.len ≤ 2000
  case neg =>
    have t1 : decide ((2000 : Int) < (b.len : Int)) = true := by simp; omega
    go_wp2
    go_ret
    exact ⟨rfl, HC2.out⟩
  have t1 : decide ((2000 : Int) < (b.len : Int)) = false := by simp; omega
  go_wp2_with ((with_reducible refine wpList_isOp (.load 24 (.tmp 1)) rfl ?_); refine wpList_loading _ rfl 24 (.tmp 1) rfl (.agg (bkC b)) ⟨H, 0, none⟩ rfl (by exact HL2.out) ?_)
  refine (bseal_any b A C _ HV.out HB2.out).mono ?_
  rintro e w3 ⟨A3, C3, rfl, ho3, hc3⟩
  have HX3 := Lib.hid (block_stays HX2.out hc3)
  have HL3 := Lib.hid (load_bk HX3.out)
  have HB3 := Lib.hid (HB2.out.gr hc3)
  have HC3 := Lib.hid (HC2.out.trans hc3)
  have HS3 := Lib.hid (ownsRow_rowV ho3 (by have := sealN_le b; omega) (sectZ_b HB2.out.row.bytes _))
  clear ho3 hc3 x5
  go_wp2_with ((with_reducible refine wpList_isOp (.load 24 (.tmp 1)) rfl ?_); refine wpList_loading _ rfl 24 (.tmp 1) rfl (.agg (bkC b)) ⟨H, 0, none⟩ rfl (by exact HL3.out) ?_)
  refine (rsealB_any b A C _ HV.out HB3.out).mono ?_
  rintro e w4 ⟨A4, C4, rfl, ho4, hc4⟩
  have HX4 := Lib.hid (block_stays HX3.out hc4)
  have HC4 := Lib.hid (HC3.out.trans hc4)
  have HS34 := Lib.hid (HS3.out.gr hc4)
  have HS4 := Lib.hid (ownsRow_rowV ho4 (by have := sealN_le b; omega) (sectZ_b HB2.out.row.bytes _))
  have HEQ := Lib.hid (show eqB (sealN b) (sealN b) (sectZ b) (sectZ b) = true from decide_eq_true ⟨rfl, fun _ _ => rfl⟩)
  clear ho4 hc4
  obtain ⟨N, hN⟩ : ∃ N, N = sealN b := ⟨_, rfl⟩
  obtain ⟨E, hE⟩ : ∃ E, E = sealE b := ⟨_, rfl⟩
  rw [← hN] at HS34 HS4 HEQ
  rw [← hN, ← hE]
  clear hN hE
  go_wp2_with fail
  refine (same_any _ _ N N _ _ _ _ _ HS34.out HS4.out).mono ?_
  rintro e w5 ⟨rfl, d, hw5⟩
  rw [HEQ.out]
  have hc5 : Ch (fun _ => False) w4 w5 := by rw [hw5]; exact (Ch.refl _ w4).drewN d
  have HX5 := Lib.hid (block_stays HX4.out hc5)
  have HC5 := Lib.hid (HC4.out.trans hc5)
  obtain ⟨m, hm⟩ : ∃ m, m = mayB b := ⟨_, rfl⟩
  have HM := Lib.hid hm
  have t2 : (E == E) = true := by simp
  have t3 : (m == m) = true := by simp
  clear hw5 hc5 hm
  obtain ⟨wd, hwd⟩ : ∃ wd, wd = w5.drew := ⟨_, rfl⟩
  have hcd : Ch (fun _ => False) w5 wd := by rw [hwd]; exact (Ch.refl _ w5).drew
  have HXD := Lib.hid (block_stays HX5.out hcd)
  have HCD := Lib.hid (HC5.out.trans hcd)
  have HWD := Lib.hid hwd
  clear hwd hcd
  go_upto_region 7 with fail
  refine wp_region_held (S := fun W' => W'.heap[H]? = some (.cells (bkC b) 24 (0, 0))) (by kernel_rfl) ?_
  change wpAnyH _ _ _ _ _ _ _ _ (World.drew _)
  rw [← HWD.out]
  have HS : (fun W' : World => W'.heap[H]? = some (.cells (bkC b) 24 (0, 0))) wd := HXD.out
  refine wpAnyH_take (i := 0) (oi := ⟨some 32, .move (.tmp 8), _, _, _, none⟩) (v := .bool true) rfl (by kernel_rfl) (by kernel_rfl) (by kernel_rfl) (fun _ _ _ h => h) (Or.inl ⟨by rfl, fun w' hS => ?_⟩) HS ?_
  · clear hS; go_simp
  simp only [Act.put, List.setIfInBounds_toArray, List.set_cons_zero, List.set_cons_succ]
  refine wpAnyH_take (i := 1) (oi := ⟨some 33, .move (.tmp 32), _, _, _, none⟩) (v := .bool true) rfl (by kernel_rfl) (by kernel_rfl) (by kernel_rfl) (fun _ _ _ h => h) (Or.inl ⟨by rfl, fun w' hS => ?_⟩) HS ?_
  · clear hS; go_simp
  simp only [Act.put, List.setIfInBounds_toArray, List.set_cons_zero, List.set_cons_succ]
  refine wpAnyH_take (i := 2) (oi := ⟨some 34, .move (.tmp 5), _, _, _, some (1, true)⟩) (v := .int .i64 E) rfl (by kernel_rfl) (by kernel_rfl) (by kernel_rfl) (fun _ _ _ h => h) (Or.inl ⟨by rfl, fun w' hS => ?_⟩) HS ?_
  · clear hS; go_simp
  simp only [Act.put, List.setIfInBounds_toArray, List.set_cons_zero, List.set_cons_succ]
  refine wpAnyH_take (i := 3) (oi := ⟨some 35, .move (.tmp 7), _, _, _, some (1, true)⟩) (v := .int .i64 E) rfl (by kernel_rfl) (by kernel_rfl) (by kernel_rfl) (fun _ _ _ h => h) (Or.inl ⟨by rfl, fun w' hS => ?_⟩) HS ?_
  · clear hS; go_simp
  simp only [Act.put, List.setIfInBounds_toArray, List.set_cons_zero, List.set_cons_succ]
  refine wpAnyH_take (i := 4) (oi := ⟨some 36, .binOp .eql 26 (.tmp 34) (.tmp 35) 26, _, _, _, some (1, true)⟩) (v := .bool true) rfl (by kernel_rfl) (by kernel_rfl) (by kernel_rfl) (fun _ _ _ h => h) (Or.inl ⟨by rfl, fun w' hS => ?_⟩) HS ?_
  · clear hS; go_simp
  simp only [Act.put, List.setIfInBounds_toArray, List.set_cons_zero, List.set_cons_succ]
  refine wpAnyH_take (i := 5) (oi := ⟨some 37, .pick (.tmp 33) (.tmp 36) (.const (.bool false)), _, _, _, none⟩) (v := .bool true) rfl (by kernel_rfl) (by kernel_rfl) (by kernel_rfl) (fun _ _ _ h => h) (Or.inl ⟨by rfl, fun w' hS => ?_⟩) HS ?_
  · clear hS; go_simp
  simp only [Act.put, List.setIfInBounds_toArray, List.set_cons_zero, List.set_cons_succ]
  refine wpAnyH_take (i := 6) (oi := ⟨some 38, .move (.tmp 37), _, _, _, none⟩) (v := .bool true) rfl (by kernel_rfl) (by kernel_rfl) (by kernel_rfl) (fun _ _ _ h => h) (Or.inl ⟨by rfl, fun w' hS => ?_⟩) HS ?_
  · clear hS; go_simp
  simp only [Act.put, List.setIfInBounds_toArray, List.set_cons_zero, List.set_cons_succ]
  refine wpAnyH_take (i := 7) (oi := ⟨some 39, .load 24 (.tmp 1), _, _, _, some (6, true)⟩) (v := .agg (bkC b)) rfl (by kernel_rfl) (by kernel_rfl) (by kernel_rfl) (fun _ _ _ h => h) (Or.inl ⟨by rfl, exec_load _ (.tmp 1) rfl _ ⟨H, 0, none⟩ (by first | (simp [Act.eval]; done) | simp [Act.eval, Act.put]) (fun w' hS => load_bk hS)⟩) HS ?_
  simp only [Act.put, List.setIfInBounds_toArray, List.set_cons_zero, List.set_cons_succ]
  refine wpAnyH_take (i := 9) (oi := ⟨some 41, .load 24 (.tmp 1), _, _, _, some (6, true)⟩) (v := .agg (bkC b)) rfl (by kernel_rfl) (by kernel_rfl) (by kernel_rfl) (fun _ _ _ h => h) (Or.inl ⟨by rfl, exec_load _ (.tmp 1) rfl _ ⟨H, 0, none⟩ (by first | (simp [Act.eval]; done) | simp [Act.eval, Act.put]) (fun w' hS => load_bk hS)⟩) HS ?_
  simp only [Act.put, List.setIfInBounds_toArray, List.set_cons_zero, List.set_cons_succ]
  refine wpAnyH_ready (rs := [8]) (by kernel_rfl) (by simp) ?_
  refine AllReadyH.cons rfl (fun K hK => ?_) AllReadyH.nil
  go_simp
  refine (may_any b A C _ HV.out hl).mono ?_
  rintro e w6 ⟨rfl, hc6⟩
  rw [← HM.out]
  have HX6 := Lib.hid (block_stays HXD.out hc6)
  have HC6 := Lib.hid (HCD.out.trans hc6)
  clear hc6
  dsimp only
  refine hK.out _ _ HX6.out (fun _ => ?_)
  clear hK K
  refine wpAnyH_ready (rs := [10]) (by kernel_rfl) (by simp) ?_
  refine AllReadyH.cons rfl (fun K hK => ?_) AllReadyH.nil
  go_simp
  refine (rmay_any b A C _ HV.out hl).mono ?_
  rintro e w7 ⟨rfl, hc7⟩
  rw [← HM.out]
  have HX7 := Lib.hid (block_stays HX6.out hc7)
  have HC7 := Lib.hid (HC6.out.trans hc7)
  clear hc7
  dsimp only
  refine hK.out _ _ HX7.out (fun _ => ?_)
  clear hK K
  refine wpAnyH_take (i := 11) (oi := ⟨some 43, .binOp .eql 4 (.tmp 40) (.tmp 42) 4, _, _, _, some (6, true)⟩) (v := .bool true) rfl (by kernel_rfl) (by kernel_rfl) (by kernel_rfl) (fun _ _ _ h => h) (Or.inl ⟨by rfl, fun w' hS => ?_⟩) HX7.out ?_
  · clear hS; go_simp
  simp only [Act.put, List.setIfInBounds_toArray, List.set_cons_zero, List.set_cons_succ]
  refine wpAnyH_take (i := 12) (oi := ⟨some 44, .pick (.tmp 38) (.tmp 43) (.const (.bool false)), _, _, _, none⟩) (v := .bool true) rfl (by kernel_rfl) (by kernel_rfl) (by kernel_rfl) (fun _ _ _ h => h) (Or.inl ⟨by rfl, fun w' hS => ?_⟩) HX7.out ?_
  · clear hS; go_simp
  simp only [Act.put, List.setIfInBounds_toArray, List.set_cons_zero, List.set_cons_succ]
  refine wpAnyH_take (i := 13) (oi := ⟨some 2, .assign (.tmp 44), _, _, _, none⟩) (v := .bool true) rfl (by kernel_rfl) (by kernel_rfl) (by kernel_rfl) (fun _ _ _ h => h) (Or.inl ⟨by rfl, fun w' hS => ?_⟩) HX7.out ?_
  · clear hS; go_simp
  simp only [Act.put, List.setIfInBounds_toArray, List.set_cons_zero, List.set_cons_succ]
  refine wpAnyH_done (by kernel_rfl) ?_ _
  go_wp2
  go_ret
  exact ⟨rfl, HC7.out⟩
#print axioms blockSeals_of
end Go.Proofs.Ytennkpjmdhidaaa
