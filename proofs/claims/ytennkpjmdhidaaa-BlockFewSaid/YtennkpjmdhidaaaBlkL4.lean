/-
  BlockFew, walked.
-/
import Derived.Test.YtennkpjmdhidaaaBlkL1
namespace Go.Proofs.Ytennkpjmdhidaaa
open Go.RowKit
set_option linter.unusedVariables false

theorem step_sliceM {P : Program} {ops : Array Oper} {o : Oper} {a : Act} {Q : Exit → Act → World → Prop} {w : World} {K : Act → World → Prop} {E : Prop} {t : TypeId} (hop : Region.wanted o (yielded ops a.tmps) = true) (x y : Operand) (ho : o.op = .makeSlice t x y) (u v r : Value) (w' : World) (hx : a.eval x = u) (hy : a.eval y = v) (hr : (Instr.makeSlice t u v).run P w = .ok r w')
    (hK : K (a.put o.dst r) w') : if Region.wanted o (yielded ops a.tmps) = true then Oper.wp P o a w K Q else E := by
  rw [if_pos hop]
  unfold Oper.wp execOp
  simp only [ho, hx, hy, Sem.run_bind, Sem.run_pure, Result.andThen_ok, hr]
  exact hK
theorem zeros_256 (w : World) : RowV (w.alloc (.cells (madeCells #[.int .u8 0] 256) /-t-/5)) (.slice (some ⟨w.heap.size, 0, none⟩) 256 256) 256 (fun _ => 0) := by
  have hrow : (w.alloc (.cells (madeCells #[.int .u8 0] 256) /-t-/5)).rowIs w.heap.size /-t-/5 256 (fun i => .int .u8 (((fun _ => 0 : Nat → Nat) i : Nat) : Int)) := (World.rowIs_made w (.int .u8 0) 256 /-t-/5).congr fun _ _ => rfl
  exact rowIs_v hrow (by omega) (by omega) (fun _ _ => by show 0 < 256; omega)
set_option maxHeartbeats 3200000 in
set_option maxRecDepth 100000 in
theorem blockFew_off (b c : Bk) (t : Int) (w : World) {y : Nat → Nat} (hb : BkIs w b) (hy : Bytes 4 y) (ht : t < 0 ∨ 252 < t ∨ mayB b = false) : Calls Try.prog 6 #[.agg (bkC b), .int .i64 t, .agg (arrV 4 y), .agg (bkC c)] w (Told w) := by
  have HTT := Lib.hid ht
  clear ht
  obtain ⟨A, C, hV, hl⟩ := hb.len
  obtain ⟨w1, H, hR⟩ := bkR w b
  obtain ⟨wk, hwk⟩ : ∃ wk, w1.alloc (.cells (arrV 4 y) 36) = wk := ⟨_, rfl⟩
  obtain ⟨KA, hKA⟩ : ∃ KA, w1.heap.size = KA := ⟨_, rfl⟩
  have hck : Ch (fun _ => False) w1 wk := by rw [← hwk]; exact (Ch.refl _ w1).alloc _ _
  have hkx : wk.heap[KA]? = some (.cells (arrV 4 y) 36 (0, 0)) := by rw [← hwk, ← hKA]; exact heap_alloc_new w1 _
  obtain ⟨wg, G, hS⟩ := bkR wk c
  have HBG := Lib.hid (hb.gr ((hR.ch.trans hck).trans hS.ch))
  have HV := Lib.hid hV
  have HXG := Lib.hid (block_stays hR.cx (hck.trans hS.ch))
  have HYG := Lib.hid hS.cx
  have HT := Lib.hid (show ∀ j, j < 4 → wg.cell? ⟨KA, j, none⟩ = some (.int .u8 (y j : Int)) from fun j hj => by
    rw [blk_cell ((hS.ch.block KA (blk_lt hkx) (fun f => f)).trans hkx)]
    exact arr_at hj)
  have HCG := Lib.hid ((hR.ch.trans hck).trans hS.ch)
  have HR := Lib.hid hR
  have HS := Lib.hid hS
  have HKW := Lib.hid hwk
  have HKZ := Lib.hid hKA
  have HYB := Lib.hid hy
  clear hb hR hS hV hck hkx hwk hKA hy
  go_enter Try.func6, Try.ntmps6
  go_wp2_with (first
    | ((with_reducible refine wpList_isOp (.box 24 (.tmp 0)) rfl ?_); refine wpList_boxing _ w1 rfl 24 (.tmp 0) rfl (bkC b) H rfl (by exact HR.out.sz) (by exact HR.out.al) ?_)
    | ((with_reducible refine wpList_isOp (.box 36 (.tmp 2)) rfl ?_); refine wpList_boxing _ wk rfl 36 (.tmp 2) rfl (arrV 4 y) KA rfl (by exact HKZ.out) (by exact HKW.out) ?_)
    | ((with_reducible refine wpList_isOp (.box 24 (.tmp 3)) rfl ?_); refine wpList_boxing _ wg rfl 24 (.tmp 3) rfl (bkC c) G rfl (by exact HS.out.sz) (by exact HS.out.al) ?_))
  refine (awake_any _).mono ?_
  rintro e w2 ⟨rfl, hc2⟩
  have HX2 := Lib.hid (block_stays HXG.out hc2)
  have HCG2 := Lib.hid hc2
  have HB2 := Lib.hid (HBG.out.gr hc2)
  have d0 : w2.cell? ⟨H, 0, none⟩ = some (.int .i64 b.kind) := blk_cell HX2.out
  have d1 : w2.cell? ⟨H, 1, none⟩ = some (.int .i64 b.vol) := blk_cell HX2.out
  have d2 : w2.cell? ⟨H, 2, none⟩ = some (.int .i64 b.addr) := blk_cell HX2.out
  have d3 : w2.cell? ⟨H, 3, none⟩ = some (.int .i64 b.epoch) := blk_cell HX2.out
  have d4 : w2.cell? ⟨H, 4, none⟩ = some (.int .i64 b.seq) := blk_cell HX2.out
  have d5 : w2.cell? ⟨H, 5, none⟩ = some b.V := blk_cell HX2.out
  clear hc2
  go_wp2_with fail
  refine (may_any b A C _ HV.out hl).mono ?_
  rintro e w3 ⟨rfl, hc3⟩
  have HX3 := Lib.hid (block_stays HX2.out hc3)
  have HL3 := Lib.hid (load_bk HX3.out)
  have HB3 := Lib.hid (HB2.out.gr hc3)
  have HCG3 := Lib.hid (HCG2.out.trans hc3)
  clear hc3 d0 d1 d2 d3 d4 d5
  by_cases hm : mayB b = true
  case neg =>
    have hm : mayB b = false := by simpa using hm
    rw [hm]
    go_wp2
    go_ret
    exact ⟨rfl, HCG.out.trans HCG3.out⟩
  rw [hm]
  by_cases h0 : t < 0
  · go_wp2
    go_ret
    exact ⟨rfl, HCG.out.trans HCG3.out⟩
  · have h1 : 252 < t := by
      rcases HTT.out with h | h | h
      · exact absurd h h0
      · exact h
      · rw [hm] at h; cases h
    go_wp2
    go_ret
    exact ⟨rfl, HCG.out.trans HCG3.out⟩
#print axioms blockFew_off
set_option maxHeartbeats 6400000 in
set_option maxRecDepth 100000 in
theorem blockFew_at (b c : Bk) (a : Nat) (w : World) {y : Nat → Nat} (hb : BkIs w b) (hy : Bytes 4 y) (ha : a ≤ 252) (hm : mayB b = true) : Calls Try.prog 6 #[.agg (bkC b), .int .i64 (a : Int), .agg (arrV 4 y), .agg (bkC c)] w (Told w) := by
  have HM := Lib.hid hm
  have HCF := Lib.hid (show fewB y 4 = true → classOf 256 (fewZ (sectZ b) y a 4) c = 4 from class_few hb.row.bytes hy ha)
  obtain ⟨i0, hi, hz0, hz1, hz2⟩ := info_parts Try.info5
  have hmk : ∀ w : World, (Instr.makeSlice /-t-/22 (.int .i64 256) (.int .i64 256)).run Try.prog w = .ok (.slice (some ⟨w.heap.size, 0, none⟩) 256 256) (w.alloc (.cells (madeCells #[.int .u8 0] 256) /-t-/5)) := fun w => by
    have := run_make (P := Try.prog) w /-t-/22 /-t-/5 i0 (.int .u8 0) Try.underlying22 hi hz0 .i64 .i64 256 256 (by omega) (by omega) (by rw [hz2]; omega) (by omega)
    rw [hz1] at this
    exact this
  have HMK := Lib.hid hmk
  clear hm hi hz0 hz1 hz2 hmk
  obtain ⟨A, C, hV, hl⟩ := hb.len
  obtain ⟨w1, H, hR⟩ := bkR w b
  obtain ⟨wk, hwk⟩ : ∃ wk, w1.alloc (.cells (arrV 4 y) 36) = wk := ⟨_, rfl⟩
  obtain ⟨KA, hKA⟩ : ∃ KA, w1.heap.size = KA := ⟨_, rfl⟩
  have hck : Ch (fun _ => False) w1 wk := by rw [← hwk]; exact (Ch.refl _ w1).alloc _ _
  have hkx : wk.heap[KA]? = some (.cells (arrV 4 y) 36 (0, 0)) := by rw [← hwk, ← hKA]; exact heap_alloc_new w1 _
  obtain ⟨wg, G, hS⟩ := bkR wk c
  have HBG := Lib.hid (hb.gr ((hR.ch.trans hck).trans hS.ch))
  have HV := Lib.hid hV
  have HXG := Lib.hid (block_stays hR.cx (hck.trans hS.ch))
  have HYG := Lib.hid hS.cx
  have HT := Lib.hid (show ∀ j, j < 4 → wg.cell? ⟨KA, j, none⟩ = some (.int .u8 (y j : Int)) from fun j hj => by
    rw [blk_cell ((hS.ch.block KA (blk_lt hkx) (fun f => f)).trans hkx)]
    exact arr_at hj)
  have HCG := Lib.hid ((hR.ch.trans hck).trans hS.ch)
  have HR := Lib.hid hR
  have HS := Lib.hid hS
  have HKW := Lib.hid hwk
  have HKZ := Lib.hid hKA
  have HYB := Lib.hid hy
  clear hb hR hS hV hck hkx hwk hKA hy
  go_enter Try.func6, Try.ntmps6
  go_wp2_with (first
    | ((with_reducible refine wpList_isOp (.box 24 (.tmp 0)) rfl ?_); refine wpList_boxing _ w1 rfl 24 (.tmp 0) rfl (bkC b) H rfl (by exact HR.out.sz) (by exact HR.out.al) ?_)
    | ((with_reducible refine wpList_isOp (.box 36 (.tmp 2)) rfl ?_); refine wpList_boxing _ wk rfl 36 (.tmp 2) rfl (arrV 4 y) KA rfl (by exact HKZ.out) (by exact HKW.out) ?_)
    | ((with_reducible refine wpList_isOp (.box 24 (.tmp 3)) rfl ?_); refine wpList_boxing _ wg rfl 24 (.tmp 3) rfl (bkC c) G rfl (by exact HS.out.sz) (by exact HS.out.al) ?_))
  refine (awake_any _).mono ?_
  rintro e w2 ⟨rfl, hc2⟩
  have HX2 := Lib.hid (block_stays HXG.out hc2)
  have HCG2 := Lib.hid hc2
  have HB2 := Lib.hid (HBG.out.gr hc2)
  have d0 : w2.cell? ⟨H, 0, none⟩ = some (.int .i64 b.kind) := blk_cell HX2.out
  have d1 : w2.cell? ⟨H, 1, none⟩ = some (.int .i64 b.vol) := blk_cell HX2.out
  have d2 : w2.cell? ⟨H, 2, none⟩ = some (.int .i64 b.addr) := blk_cell HX2.out
  have d3 : w2.cell? ⟨H, 3, none⟩ = some (.int .i64 b.epoch) := blk_cell HX2.out
  have d4 : w2.cell? ⟨H, 4, none⟩ = some (.int .i64 b.seq) := blk_cell HX2.out
  have d5 : w2.cell? ⟨H, 5, none⟩ = some b.V := blk_cell HX2.out
  clear hc2
  go_wp2_with fail
  refine (may_any b A C _ HV.out hl).mono ?_
  rintro e w3 ⟨rfl, hc3⟩
  have HX3 := Lib.hid (block_stays HX2.out hc3)
  have HL3 := Lib.hid (load_bk HX3.out)
  have HB3 := Lib.hid (HB2.out.gr hc3)
  have HCG3 := Lib.hid (HCG2.out.trans hc3)
  clear hc3 d0 d1 d2 d3 d4 d5
  rw [HM.out]
  have hN : sealN b = 256 := by unfold sealN; rw [HM.out]; rfl
  have hE : sealE b = 0 := of_decide_eq_true (by rw [← sealE_may]; exact HM.out)
  have t1 : decide ((a : Int) < 0) = false := by simp
  have t2 : decide ((252 : Int) < (a : Int)) = false := by simp; omega
  go_wp2_with ((with_reducible refine wpList_isOp (.load 24 (.tmp 4)) rfl ?_); refine wpList_loading _ rfl 24 (.tmp 4) rfl (.agg (bkC b)) ⟨H, 0, none⟩ rfl (by exact HL3.out) ?_)
  refine (bseal_any b A C _ HV.out HB3.out).mono ?_
  rintro e w4 ⟨A4, C4, rfl, ho4, hc4⟩
  rw [hN] at ho4
  rw [hN, hE]
  obtain ⟨g, Cg, e4, hCg⟩ := owns_some ho4 (by omega)
  injection e4 with e4 _ e5
  subst e4
  subst e5
  have HSB := Lib.hid (show Bytes 256 (sectZ b) from sectZ_b HB3.out.row.bytes 256)
  have HR3 := Lib.hid (show FewRel wg g 256 C4 (sectZ b) y a 0 w4 from ⟨by
    rw [bytesL_congr fun c _ => fewZ_none (sectZ b) y a c]
    exact ownsRow_low ho4 HCG3.out.size, HCG3.out.trans hc4⟩)
  clear ho4 hc4 hN hE hCg
  go_wp2_with fail
  go_loopw [12, 13] (fun ch i wr => ∃ k : Nat, k ≤ 4 ∧ i = .int .i64 k ∧ ch = .bool (fewB y k) ∧ Hid (FewRel wg g 256 C4 (sectZ b) y a k wr)) (fun _ i _ => 4 - (intOf i).toNat)
  case atStart => exact ⟨0, Nat.zero_le _, rfl, rfl, HR3⟩
  case round =>
    obtain ⟨k, hk, rfl, rfl, HK⟩ := hrel
    by_cases hlt : k < 4
    · have tk : decide ((k : Int) < 4) = true := by simp; omega
      have c1 := HK.out.ch.cell (HT.out k hlt) (fun f => f)
      have hx : sectZ b (a + k) < 256 := HSB.out _ (by omega)
      have hy := HYB.out k hlt
      have c2 := World.ownsRow.cellAt HK.out.own (a + k) (by omega)
      have f2 := World.ownsRow.frozenAt HK.out.own (a + k)
      rw [bytesL_get (by omega), fewZ_at] at c2
      have HX := Lib.hid (xor_at hx hy)
      have HN0 := Lib.hid HK.out.step
      rw [← HX.out] at HN0
      obtain ⟨J, hJ⟩ : ∃ J, J = a + k := ⟨_, rfl⟩
      have iw : IntKind.i64.wrap ((a : Int) + (k : Int)) = (J : Int) := by
        rw [show (a : Int) + (k : Int) = (J : Int) by omega]
        exact wrap_small (by omega) (by omega)
      have i1 : (0 : Int) ≤ (J : Int) := by omega
      have i2 : (J : Int) < 256 := by omega
      have i3 : (0 : Int) ≤ (k : Int) := by omega
      have i4 : (k : Int) < 4 := by omega
      rw [← hJ] at c2 f2 HN0 hx
      have c3 := HN0.out.ch.cell (HT.out k hlt) (fun f => f)
      have HN := Lib.hid HN0.out.drew
      by_cases q : fewB y k = true
      · have HQ := Lib.hid (show fewB y (k + 1) = true by show (fewB y k || (y k != 0)) = true; rw [q]; rfl)
        rw [q]
        clear hx hy q hJ HN0
        go_wp2
        go_still_tail 15, (by kernel_rfl)
        change wpList _ _ _ _ _ wr.drew
        go_wp2
        go_roundw
        case rel => first | exact ⟨k + 1, by omega, by go_num, by rw [HQ.out], HN⟩ | ((repeat apply Exists.intro); exact ⟨⟨k + 1, by omega, (show Value.int .i64 ((k : Int) + 1) = .int .i64 ((k + 1 : Nat) : Int) by go_num), congrArg Value.bool HQ.out.symm, HN⟩, rfl⟩)
        case measure => simp [intOf]; omega
      · have hq : fewB y k = false := by simpa using q
        rw [hq]
        by_cases q2 : y k = 0
        · have HQ := Lib.hid (show fewB y (k + 1) = false by show (fewB y k || (y k != 0)) = false; rw [hq, q2]; rfl)
          have tq : ((y k : Int) != 0) = false := by simp [q2]
          clear hx hy q hq q2 hJ HN0
          go_wp2
          go_still_tail 15, (by kernel_rfl)
          change wpList _ _ _ _ _ wr.drew
          go_wp2
          go_roundw
          case rel => first | exact ⟨k + 1, by omega, by go_num, by rw [HQ.out], HN⟩ | ((repeat apply Exists.intro); exact ⟨⟨k + 1, by omega, (show Value.int .i64 ((k : Int) + 1) = .int .i64 ((k + 1 : Nat) : Int) by go_num), congrArg Value.bool HQ.out.symm, HN⟩, rfl⟩)
          case measure => simp [intOf]; omega
        · have HQ := Lib.hid (show fewB y (k + 1) = true by show (fewB y k || (y k != 0)) = true; rw [hq]; simpa using q2)
          have tq : ((y k : Int) != 0) = true := by simp; omega
          clear hx hy q hq q2 hJ HN0
          go_wp2
          go_still_tail 15, (by kernel_rfl)
          change wpList _ _ _ _ _ wr.drew
          go_wp2
          go_roundw
          case rel => first | exact ⟨k + 1, by omega, by go_num, by rw [HQ.out], HN⟩ | ((repeat apply Exists.intro); exact ⟨⟨k + 1, by omega, (show Value.int .i64 ((k : Int) + 1) = .int .i64 ((k + 1 : Nat) : Int) by go_num), congrArg Value.bool HQ.out.symm, HN⟩, rfl⟩)
          case measure => simp [intOf]; omega
    · obtain rfl : k = 4 := by omega
      have hRW := ownsRow_rowV HK.out.own (by omega) (fewZ_b HSB.out HYB.out (Nat.le_refl 4))
      obtain ⟨wd, hwd⟩ : ∃ wd, wd = wr.drew := ⟨_, rfl⟩
      have hcd : Ch (fun _ => False) wr wd := by rw [hwd]; exact (Ch.refl _ wr).drew
      have HSD := Lib.hid (hRW.gr hcd)
      have HXD := Lib.hid (block_stays HYG.out (HK.out.ch.trans hcd))
      have HCD := Lib.hid (HCG.out.trans (HK.out.ch.trans hcd))
      have HWD := Lib.hid hwd
      obtain ⟨q, hq⟩ : ∃ q, q = fewB y 4 := ⟨_, rfl⟩
      have HQ := Lib.hid hq
      rw [← hq]
      clear hq HK hRW hwd hcd
      go_upto_region 13 with fail
      refine wp_region_held (S := fun W' => W'.heap[G]? = some (.cells (bkC c) 24 (0, 0))) (by kernel_rfl) ?_
      change wpAnyH _ _ _ _ _ _ _ _ (World.drew _)
      rw [← HWD.out]
      have HS : (fun W' : World => W'.heap[G]? = some (.cells (bkC c) 24 (0, 0))) wd := HXD.out
      cases q
      · refine wpAnyH_take (i := 0) (oi := ⟨some 69, .move (.tmp 12), _, _, _, none⟩) (v := .bool false) rfl (by kernel_rfl) (by kernel_rfl) (by kernel_rfl) (fun _ _ _ h => h) (Or.inl ⟨by rfl, fun w' hS => ?_⟩) HS ?_
        · clear hS; go_simp
        simp only [Act.put, List.setIfInBounds_toArray, List.set_cons_zero, List.set_cons_succ]
        refine wpAnyH_take (i := 1) (oi := ⟨some 70, .unOp .not 4 (.tmp 69), _, _, _, none⟩) (v := .bool true) rfl (by kernel_rfl) (by kernel_rfl) (by kernel_rfl) (fun _ _ _ h => h) (Or.inl ⟨by rfl, fun w' hS => ?_⟩) HS ?_
        · clear hS; go_simp
        simp only [Act.put, List.setIfInBounds_toArray, List.set_cons_zero, List.set_cons_succ]
        refine wpAnyH_take (i := 2) (oi := ⟨some 71, .move (.tmp 70), _, _, _, none⟩) (v := .bool true) rfl (by kernel_rfl) (by kernel_rfl) (by kernel_rfl) (fun _ _ _ h => h) (Or.inl ⟨by rfl, fun w' hS => ?_⟩) HS ?_
        · clear hS; go_simp
        simp only [Act.put, List.setIfInBounds_toArray, List.set_cons_zero, List.set_cons_succ]
        refine wpAnyH_take (i := 3) (oi := ⟨some 72, .move (.tmp 10), _, _, _, some (2, false)⟩) (v := undef) rfl (by kernel_rfl) (by kernel_rfl) (by kernel_rfl) (fun _ _ _ h => h) (Or.inr ⟨by rfl, rfl⟩) HS ?_
        simp only [Act.put, List.setIfInBounds_toArray, List.set_cons_zero, List.set_cons_succ]
        refine wpAnyH_take (i := 4) (oi := ⟨some 73, .load 24 (.tmp 7), _, _, _, some (2, false)⟩) (v := undef) rfl (by kernel_rfl) (by kernel_rfl) (by kernel_rfl) (fun _ _ _ h => h) (Or.inr ⟨by rfl, rfl⟩) HS ?_
        simp only [Act.put, List.setIfInBounds_toArray, List.set_cons_zero, List.set_cons_succ]
        refine wpAnyH_take (i := 5) (oi := ⟨some 74, .call { callee := .value (.func 17), args := #[.tmp 72, .tmp 73], argTypes := #[ /-t-/22, 24] }, _, _, _, some (2, false)⟩) (v := undef) rfl (by kernel_rfl) (by kernel_rfl) (by kernel_rfl) (fun _ _ _ h => h) (Or.inr ⟨by rfl, rfl⟩) HS ?_
        simp only [Act.put, List.setIfInBounds_toArray, List.set_cons_zero, List.set_cons_succ]
        refine wpAnyH_take (i := 6) (oi := ⟨some 75, .binOp .eql /-t-/3 (.tmp 74) (.const (.int .i64 4)) /-t-/3, _, _, _, some (2, false)⟩) (v := undef) rfl (by kernel_rfl) (by kernel_rfl) (by kernel_rfl) (fun _ _ _ h => h) (Or.inr ⟨by rfl, rfl⟩) HS ?_
        simp only [Act.put, List.setIfInBounds_toArray, List.set_cons_zero, List.set_cons_succ]
        refine wpAnyH_take (i := 7) (oi := ⟨some 76, .pick (.tmp 71) (.const (.bool true)) (.tmp 75), _, _, _, none⟩) (v := .bool true) rfl (by kernel_rfl) (by kernel_rfl) (by kernel_rfl) (fun _ _ _ h => h) (Or.inl ⟨by rfl, fun w' hS => ?_⟩) HS ?_
        · clear hS; go_simp
        simp only [Act.put, List.setIfInBounds_toArray, List.set_cons_zero, List.set_cons_succ]
        refine wpAnyH_take (i := 8) (oi := ⟨some 77, .move (.tmp 76), _, _, _, none⟩) (v := .bool true) rfl (by kernel_rfl) (by kernel_rfl) (by kernel_rfl) (fun _ _ _ h => h) (Or.inl ⟨by rfl, fun w' hS => ?_⟩) HS ?_
        · clear hS; go_simp
        simp only [Act.put, List.setIfInBounds_toArray, List.set_cons_zero, List.set_cons_succ]
        refine wpAnyH_take (i := 10) (oi := ⟨some 79, .load 24 (.tmp 7), _, _, _, some (8, true)⟩) (v := .agg (bkC c)) rfl (by kernel_rfl) (by kernel_rfl) (by kernel_rfl) (fun _ _ _ h => h) (Or.inl ⟨by rfl, exec_load _ (.tmp 7) rfl _ ⟨G, 0, none⟩ (by first | (simp [Act.eval]; done) | simp [Act.eval, Act.put]) (fun w' hS => load_bk hS)⟩) HXD.out ?_
        simp only [Act.put, List.setIfInBounds_toArray, List.set_cons_zero, List.set_cons_succ]
        refine wpAnyH_ready (rs := [9]) (by kernel_rfl) (by simp) ?_
        refine AllReadyH.cons rfl (fun K hK => ?_) AllReadyH.nil
        refine step_sliceM (o := ⟨some 78, .makeSlice /-t-/22 (.const (.int .i64 256)) (.const (.int .i64 256)), _, _, _, some (8, true)⟩) rfl (.const (.int .i64 256)) (.const (.int .i64 256)) rfl (.int .i64 256) (.int .i64 256) _ _ rfl rfl (HMK.out _) ?_
        have HZ9 := Lib.hid (zeros_256 wd)
        have HX9 := Lib.hid (block_stays HXD.out ((Ch.refl (fun _ => False) wd).alloc (madeCells #[.int .u8 0] 256) /-t-/5))
        have HC9 := Lib.hid (HCD.out.alloc (madeCells #[.int .u8 0] 256) /-t-/5)
        refine hK.out _ _ HX9.out (fun _ => ?_)
        clear hK K
        simp only [Act.put, List.setIfInBounds_toArray, List.set_cons_zero, List.set_cons_succ]
        refine wpAnyH_ready (rs := [11]) (by kernel_rfl) (by simp) ?_
        refine AllReadyH.cons rfl (fun K hK => ?_) AllReadyH.nil
        go_simp
        refine (class_any _ 256 _ _ c _ HZ9.out).mono ?_
        rintro e w11 ⟨rfl, hc11⟩
        rw [class_zero]
        have HX11 := Lib.hid (block_stays HX9.out hc11)
        have HC11 := Lib.hid (HC9.out.trans hc11)
        clear hc11
        dsimp only
        refine hK.out _ _ HX11.out (fun _ => ?_)
        clear hK K
        refine wpAnyH_take (i := 12) (oi := ⟨some 81, .binOp .eql /-t-/3 (.tmp 80) (.const (.int .i64 4)) /-t-/3, _, _, _, some (8, true)⟩) (v := .bool true) rfl (by kernel_rfl) (by kernel_rfl) (by kernel_rfl) (fun _ _ _ h => h) (Or.inl ⟨by rfl, fun w' hS => ?_⟩) HX11.out ?_
        · clear hS; go_simp
        simp only [Act.put, List.setIfInBounds_toArray, List.set_cons_zero, List.set_cons_succ]
        refine wpAnyH_take (i := 13) (oi := ⟨some 82, .pick (.tmp 77) (.tmp 81) (.const (.bool false)), _, _, _, none⟩) (v := .bool true) rfl (by kernel_rfl) (by kernel_rfl) (by kernel_rfl) (fun _ _ _ h => h) (Or.inl ⟨by rfl, fun w' hS => ?_⟩) HX11.out ?_
        · clear hS; go_simp
        simp only [Act.put, List.setIfInBounds_toArray, List.set_cons_zero, List.set_cons_succ]
        refine wpAnyH_take (i := 14) (oi := ⟨some 8, .assign (.tmp 82), _, _, _, none⟩) (v := .bool true) rfl (by kernel_rfl) (by kernel_rfl) (by kernel_rfl) (fun _ _ _ h => h) (Or.inl ⟨by rfl, fun w' hS => ?_⟩) HX11.out ?_
        · clear hS; go_simp
        simp only [Act.put, List.setIfInBounds_toArray, List.set_cons_zero, List.set_cons_succ]
        refine wpAnyH_done (by kernel_rfl) ?_ _
        go_wp2
        go_ret
        exact ⟨rfl, HC11.out⟩
      · refine wpAnyH_take (i := 0) (oi := ⟨some 69, .move (.tmp 12), _, _, _, none⟩) (v := .bool true) rfl (by kernel_rfl) (by kernel_rfl) (by kernel_rfl) (fun _ _ _ h => h) (Or.inl ⟨by rfl, fun w' hS => ?_⟩) HS ?_
        · clear hS; go_simp
        simp only [Act.put, List.setIfInBounds_toArray, List.set_cons_zero, List.set_cons_succ]
        refine wpAnyH_take (i := 1) (oi := ⟨some 70, .unOp .not 4 (.tmp 69), _, _, _, none⟩) (v := .bool false) rfl (by kernel_rfl) (by kernel_rfl) (by kernel_rfl) (fun _ _ _ h => h) (Or.inl ⟨by rfl, fun w' hS => ?_⟩) HS ?_
        · clear hS; go_simp
        simp only [Act.put, List.setIfInBounds_toArray, List.set_cons_zero, List.set_cons_succ]
        refine wpAnyH_take (i := 2) (oi := ⟨some 71, .move (.tmp 70), _, _, _, none⟩) (v := .bool false) rfl (by kernel_rfl) (by kernel_rfl) (by kernel_rfl) (fun _ _ _ h => h) (Or.inl ⟨by rfl, fun w' hS => ?_⟩) HS ?_
        · clear hS; go_simp
        simp only [Act.put, List.setIfInBounds_toArray, List.set_cons_zero, List.set_cons_succ]
        refine wpAnyH_take (i := 3) (oi := ⟨some 72, .move (.tmp 10), _, _, _, some (2, false)⟩) (v := .slice (some ⟨g, 0, none⟩) 256 C4) rfl (by kernel_rfl) (by kernel_rfl) (by kernel_rfl) (fun _ _ _ h => h) (Or.inl ⟨by rfl, fun w' hS => ?_⟩) HS ?_
        · clear hS; go_simp
        simp only [Act.put, List.setIfInBounds_toArray, List.set_cons_zero, List.set_cons_succ]
        refine wpAnyH_take (i := 4) (oi := ⟨some 73, .load 24 (.tmp 7), _, _, _, some (2, false)⟩) (v := .agg (bkC c)) rfl (by kernel_rfl) (by kernel_rfl) (by kernel_rfl) (fun _ _ _ h => h) (Or.inl ⟨by rfl, exec_load _ (.tmp 7) rfl _ ⟨G, 0, none⟩ (by first | (simp [Act.eval]; done) | simp [Act.eval, Act.put]) (fun w' hS => load_bk hS)⟩) HS ?_
        simp only [Act.put, List.setIfInBounds_toArray, List.set_cons_zero, List.set_cons_succ]
        refine wpAnyH_ready (rs := [5]) (by kernel_rfl) (by simp) ?_
        refine AllReadyH.cons rfl (fun K hK => ?_) AllReadyH.nil
        go_simp
        refine (class_any _ 256 _ _ c _ HSD.out).mono ?_
        rintro e w6 ⟨rfl, hc6⟩
        rw [HCF.out HQ.out.symm]
        have HX6 := Lib.hid (block_stays HXD.out hc6)
        have HC6 := Lib.hid (HCD.out.trans hc6)
        clear hc6
        dsimp only
        refine hK.out _ _ HX6.out (fun _ => ?_)
        clear hK K
        refine wpAnyH_take (i := 6) (oi := ⟨some 75, .binOp .eql /-t-/3 (.tmp 74) (.const (.int .i64 4)) /-t-/3, _, _, _, some (2, false)⟩) (v := .bool true) rfl (by kernel_rfl) (by kernel_rfl) (by kernel_rfl) (fun _ _ _ h => h) (Or.inl ⟨by rfl, fun w' hS => ?_⟩) HX6.out ?_
        · clear hS; go_simp
        simp only [Act.put, List.setIfInBounds_toArray, List.set_cons_zero, List.set_cons_succ]
        refine wpAnyH_take (i := 7) (oi := ⟨some 76, .pick (.tmp 71) (.const (.bool true)) (.tmp 75), _, _, _, none⟩) (v := .bool true) rfl (by kernel_rfl) (by kernel_rfl) (by kernel_rfl) (fun _ _ _ h => h) (Or.inl ⟨by rfl, fun w' hS => ?_⟩) HX6.out ?_
        · clear hS; go_simp
        simp only [Act.put, List.setIfInBounds_toArray, List.set_cons_zero, List.set_cons_succ]
        refine wpAnyH_take (i := 8) (oi := ⟨some 77, .move (.tmp 76), _, _, _, none⟩) (v := .bool true) rfl (by kernel_rfl) (by kernel_rfl) (by kernel_rfl) (fun _ _ _ h => h) (Or.inl ⟨by rfl, fun w' hS => ?_⟩) HX6.out ?_
        · clear hS; go_simp
        simp only [Act.put, List.setIfInBounds_toArray, List.set_cons_zero, List.set_cons_succ]
        refine wpAnyH_take (i := 10) (oi := ⟨some 79, .load 24 (.tmp 7), _, _, _, some (8, true)⟩) (v := .agg (bkC c)) rfl (by kernel_rfl) (by kernel_rfl) (by kernel_rfl) (fun _ _ _ h => h) (Or.inl ⟨by rfl, exec_load _ (.tmp 7) rfl _ ⟨G, 0, none⟩ (by first | (simp [Act.eval]; done) | simp [Act.eval, Act.put]) (fun w' hS => load_bk hS)⟩) HX6.out ?_
        simp only [Act.put, List.setIfInBounds_toArray, List.set_cons_zero, List.set_cons_succ]
        refine wpAnyH_ready (rs := [9]) (by kernel_rfl) (by simp) ?_
        refine AllReadyH.cons rfl (fun K hK => ?_) AllReadyH.nil
        refine step_sliceM (o := ⟨some 78, .makeSlice /-t-/22 (.const (.int .i64 256)) (.const (.int .i64 256)), _, _, _, some (8, true)⟩) rfl (.const (.int .i64 256)) (.const (.int .i64 256)) rfl (.int .i64 256) (.int .i64 256) _ _ rfl rfl (HMK.out _) ?_
        have HZ9 := Lib.hid (zeros_256 w6)
        have HX9 := Lib.hid (block_stays HX6.out ((Ch.refl (fun _ => False) w6).alloc (madeCells #[.int .u8 0] 256) /-t-/5))
        have HC9 := Lib.hid (HC6.out.alloc (madeCells #[.int .u8 0] 256) /-t-/5)
        refine hK.out _ _ HX9.out (fun _ => ?_)
        clear hK K
        simp only [Act.put, List.setIfInBounds_toArray, List.set_cons_zero, List.set_cons_succ]
        refine wpAnyH_ready (rs := [11]) (by kernel_rfl) (by simp) ?_
        refine AllReadyH.cons rfl (fun K hK => ?_) AllReadyH.nil
        go_simp
        refine (class_any _ 256 _ _ c _ HZ9.out).mono ?_
        rintro e w11 ⟨rfl, hc11⟩
        rw [class_zero]
        have HX11 := Lib.hid (block_stays HX9.out hc11)
        have HC11 := Lib.hid (HC9.out.trans hc11)
        clear hc11
        dsimp only
        refine hK.out _ _ HX11.out (fun _ => ?_)
        clear hK K
        refine wpAnyH_take (i := 12) (oi := ⟨some 81, .binOp .eql /-t-/3 (.tmp 80) (.const (.int .i64 4)) /-t-/3, _, _, _, some (8, true)⟩) (v := .bool true) rfl (by kernel_rfl) (by kernel_rfl) (by kernel_rfl) (fun _ _ _ h => h) (Or.inl ⟨by rfl, fun w' hS => ?_⟩) HX11.out ?_
        · clear hS; go_simp
        simp only [Act.put, List.setIfInBounds_toArray, List.set_cons_zero, List.set_cons_succ]
        refine wpAnyH_take (i := 13) (oi := ⟨some 82, .pick (.tmp 77) (.tmp 81) (.const (.bool false)), _, _, _, none⟩) (v := .bool true) rfl (by kernel_rfl) (by kernel_rfl) (by kernel_rfl) (fun _ _ _ h => h) (Or.inl ⟨by rfl, fun w' hS => ?_⟩) HX11.out ?_
        · clear hS; go_simp
        simp only [Act.put, List.setIfInBounds_toArray, List.set_cons_zero, List.set_cons_succ]
        refine wpAnyH_take (i := 14) (oi := ⟨some 8, .assign (.tmp 82), _, _, _, none⟩) (v := .bool true) rfl (by kernel_rfl) (by kernel_rfl) (by kernel_rfl) (fun _ _ _ h => h) (Or.inl ⟨by rfl, fun w' hS => ?_⟩) HX11.out ?_
        · clear hS; go_simp
        simp only [Act.put, List.setIfInBounds_toArray, List.set_cons_zero, List.set_cons_succ]
        refine wpAnyH_done (by kernel_rfl) ?_ _
        go_wp2
        go_ret
        exact ⟨rfl, HC11.out⟩
#print axioms blockFew_at
theorem blockFew_of (b : Bk) (t : Int) (vb : Value) (c : Bk) (w : World) {y : Nat → Nat} (hb : BkIs w b) (ht : -9223372036854775808 ≤ t ∧ t ≤ 9223372036854775807) (hv : vb = .agg (arrV 4 y)) (hy : Bytes 4 y) (hc : BkIs w c) : Calls Try.prog 6 #[.agg (bkC b), .int .i64 t, vb, .agg (bkC c)] w (Told w) := by
  subst hv
  by_cases h : 0 ≤ t ∧ t ≤ 252
  · by_cases hm : mayB b = true
    · obtain ⟨a, rfl⟩ : ∃ a : Nat, t = (a : Int) := ⟨t.toNat, by omega⟩
      exact blockFew_at b c a w hb hy (by omega) hm
    · exact blockFew_off b c t w hb hy (Or.inr (Or.inr (by simpa using hm)))
  · exact blockFew_off b c t w hb hy (by omega)
#print axioms blockFew_of
end Go.Proofs.Ytennkpjmdhidaaa
