/-
  The document's Open (quartermasterref07), walked.
-/
import Derived.Test.YteleknojohnlbaaGreatMk15
namespace Go.Proofs.YteleknojohnlbaaGreat
open Go.RowKit
set_option linter.unusedVariables false
set_option maxRecDepth 100000
theorem opensB_over {z : Nat → Nat} (hz : Bytes 256 z) (h : ¬ blkLong z ≤ 228) : opensB 256 z = false := by
  rw [opensB_at]
  have : eqB 256 256 (sectZ (readB undef z)) z = false := decide_eq_false fun q => by
    have e0 := q.2 20 (by omega)
    have e1 := q.2 21 (by omega)
    have l : (readB undef z).len = 228 := by rw [readB_len]; unfold rdLen; rw [if_neg h]
    rw [sectZ_front (by omega)] at e0 e1
    have s0 := secZ_len (b := readB undef z) 0 (by omega)
    have s1 := secZ_len (b := readB undef z) 1 (by omega)
    rw [l] at s0 s1
    rw [show 20 + 0 = 20 from rfl, e0] at s0
    rw [show 20 + 1 = 21 from rfl, e1] at s1
    have b0 : Crc.byteOf 228 0 = 228 := by decide
    have b1 : Crc.byteOf 228 1 = 0 := by decide
    rw [b0] at s0
    rw [b1] at s1
    apply h
    unfold blkLong
    omega
  rw [this, Bool.and_false]
set_option maxHeartbeats 1600000 in
set_option maxRecDepth 100000 in
theorem ropen_long (A : Option Addr) (n C : Nat) (z : Nat → Nat) (w : World) (hn : n ≤ 140737488351232) (h : n ≠ 256) : Calls Tryz.prog 50 #[.slice A n C] w (OpenPost n z w) := by
  obtain ⟨w1, H, hZ⟩ := zeR w
  obtain ⟨w2, h2⟩ := stR (b := bk0) hZ.cx bk0_V
  have HP := Lib.hid (openPost_no (w := w) (w' := w2) (opensB_long z h) (openE_long z h) (hZ.ch.over h2.ch (by rw [hZ.sz]; exact Nat.le_refl _)))
  have HZ := Lib.hid hZ
  have H2 := Lib.hid h2
  have t1 : ((n : Int) != 256) = true := by simp; omega
  clear hZ h2 h
  go_enter Tryz.func50, Tryz.ntmps50
  go_wp2_with (first
    | ((with_reducible refine wpList_isOp (.alloc 80) rfl ?_); refine wpList_making _ w1 rfl 80 rfl (bkC bk0) H (zero_bk _) (by exact HZ.out.sz) (by exact HZ.out.al) ?_)
    | ((with_reducible refine wpList_isOp (.store 80 (.tmp 2) (.tmp 12)) rfl ?_); refine wpList_storing _ w2 rfl 80 (.tmp 2) (.tmp 12) rfl (.agg (bkC bk0)) ⟨H, 0, none⟩ rfl rfl (by exact H2.out.st) ?_))
  exact bodyPost_ret (v := .tuple #[.agg (bkC bk0), .int .i64 1]) (results_bk Tryz.results50 _ _ H bk0 rfl H2.out.cx) rfl HP.out
theorem eqB_symm (n : Nat) (z y : Nat → Nat) : eqB n n z y = eqB n n y z := by
  unfold eqB
  rw [decide_eq_decide]
  exact ⟨fun h => ⟨rfl, fun c hc => (h.2 c hc).symm⟩, fun h => ⟨rfl, fun c hc => (h.2 c hc).symm⟩⟩
theorem opensB_seal {z : Nat → Nat} {r : Bk} (h1 : mayB (readB undef z) = mayB r) (h2 : sectZ (readB undef z) = sectZ r) : opensB 256 z = (decide (sealE r = 0) && eqB 256 (sealN r) z (sectZ r)) := by
  rw [opensB_at, h1, h2, sealE_may]
  by_cases h : sealE r = 0
  · rw [decide_eq_true h, Bool.true_and, Bool.true_and]
    have hm : mayB r = true := by rw [sealE_may]; exact decide_eq_true h
    have hN : sealN r = 256 := by unfold sealN; rw [hm]; rfl
    rw [hN, eqB_symm]
  · rw [decide_eq_false h, Bool.false_and, Bool.false_and]
theorem built_bk (k v a e s : Int) (w : World) : (Instr.build 80 #[(0, .int .i64 k), (1, .int .i64 v), (2, .int .i64 a), (3, .int .i64 e), (4, .int .i64 s)]).run Tryz.prog w = .ok (.agg (bkC ⟨k, v, a, e, s, .slice none 0 0, 0, fun _ => 0⟩)) w := run_build w _ _ _ (by kernel_rfl)
set_option maxHeartbeats 3200000 in
set_option maxRecDepth 100000 in
theorem ropen_at (A : Option Addr) (C : Nat) (z : Nat → Nat) (w : World) (h : RowV w (.slice A 256 C) 256 z) : Calls Tryz.prog 50 #[.slice A 256 C] w (OpenPost 256 z w) := by
  obtain ⟨w1, H, hZ⟩ := zeR w
  have HZ := Lib.hid hZ
  have HV1 := Lib.hid (h.gr hZ.ch)
  have HBY := Lib.hid h.bytes
  have t1 : ((256 : Int) != 256) = false := by simp
  obtain ⟨b, o, rfl, _⟩ := h.at (by omega)
  have hCb : 256 ≤ C := by obtain ⟨_, _, e, h2, _⟩ := h; injection e with _ _ e; rw [e]; exact h2.2
  have k20 : ¬ C = 20 := by omega
  have k4 : ¬ C = 4 := by omega
  have k8 : ¬ C = 8 := by omega
  have k12 : ¬ C = 12 := by omega
  have k16 : ¬ C = 16 := by omega
  have k24 : ¬ C = 24 := by omega
  have HS2 := Lib.hid (show RowV w1 (.slice (some ⟨b, o + 20, none⟩) 2 (C - 20)) 2 (fun i => z (20 + i)) from row_front (row_tail HV1.out (show 20 ≤ 256 by omega)) (by omega))
  have HN2 := Lib.hid (show nv (fun i => z (20 + i)) 0 2 = blkLong z from nv_2 (fun i => z (20 + i)) 0)
  have hXb : blkLong z ≤ 65791 := by
    have h0 := HV1.out.bytes 20 (by omega)
    have h1 := HV1.out.bytes 21 (by omega)
    unfold blkLong
    omega
  clear hZ h
  go_enter Tryz.func50, Tryz.ntmps50
  go_wp2_with ((with_reducible refine wpList_isOp (.alloc 80) rfl ?_); refine wpList_making _ w1 rfl 80 rfl (bkC bk0) H (zero_bk _) (by exact HZ.out.sz) (by exact HZ.out.al) ?_)
  refine (brnum_any _ 2 _ _ _ HS2.out (by omega)).mono ?_
  rintro e w2 ⟨rfl, rfl⟩
  rw [HN2.out]
  by_cases hq : blkLong z ≤ 228
  case neg =>
    obtain ⟨w2, h2⟩ := stR (b := bk0) HZ.out.cx bk0_V
    have hno := opensB_over HBY.out hq
    have HP := Lib.hid (openPost_no (x := 7) (w := w) (w' := w2) hno (by rw [openE_at, hno]; rfl) (HZ.out.ch.over h2.ch (by rw [HZ.out.sz]; exact Nat.le_refl _)))
    have H2 := Lib.hid h2
    obtain ⟨X, hX⟩ : ∃ X, X = blkLong z := ⟨_, rfl⟩
    rw [← hX] at hXb hq ⊢
    have t2 : decide ((228 : Int) < (X : Int)) = true := by simp; omega
    clear hX hno h2 hq
    go_wp2_with ((with_reducible refine wpList_isOp (.store 80 (.tmp 2) (.tmp 18)) rfl ?_); refine wpList_storing _ w2 rfl 80 (.tmp 2) (.tmp 18) rfl (.agg (bkC bk0)) ⟨H, 0, none⟩ rfl rfl (by exact H2.out.st) ?_)
    exact bodyPost_ret (v := .tuple #[.agg (bkC bk0), .int .i64 7]) (results_bk Tryz.results50 _ _ H bk0 rfl H2.out.cx) rfl HP.out
  have HRL := Lib.hid (show blkLong z = rdLen z by unfold rdLen; rw [if_pos hq])
  have HR4 := Lib.hid (show ∀ (w' : World) (a : Nat), a + 4 ≤ 256 → RowV w' (.slice (some ⟨b, o, none⟩) 256 C) 256 z → Calls Tryz.prog 86 #[.slice (some ⟨b, o + a, none⟩) 4 (C - a)] w' fun e w'' => e = .returned (.int .i64 (numZ z a : Int)) ∧ w' = w'' from fun w' a ha hr => by
    have := brnum_any _ 4 _ _ w' (row_front (row_tail hr (show a ≤ 256 by omega)) (show 4 ≤ 256 - a by omega)) (Nat.le_refl _)
    have e4 := nv_4 (fun i => z (a + i)) 0
    have e5 : numZ (fun i => z (a + i)) 0 = numZ z a := rfl
    rw [e4, e5] at this
    exact this)
  obtain ⟨X, hX⟩ : ∃ X, X = blkLong z := ⟨_, rfl⟩
  rw [← hX] at hXb hq HRL ⊢
  have t2 : decide ((228 : Int) < (X : Int)) = false := by simp; omega
  have HX := Lib.hid hX
  clear hX
  obtain ⟨wd, hwd⟩ : ∃ wd, wd = w1.drew := ⟨_, rfl⟩
  have hcd : Ch (fun _ => False) w1 wd := by rw [hwd]; exact (Ch.refl _ w1).drew
  obtain ⟨we, H3, hZ3⟩ := zeR wd
  have HVD := Lib.hid (HV1.out.gr hcd)
  have HVE := Lib.hid (HV1.out.gr (hcd.trans hZ3.ch))
  have hz2 : z 2 < 256 := HBY.out 2 (by omega)
  have ez2 : IntKind.i64.wrap (z 2 : Int) = (z 2 : Int) := by rw [IntKind.wrap_i64]; omega
  have m8 : (8 : Int) ≤ (C : Int) := by omega
  have m12 : (12 : Int) ≤ (C : Int) := by omega
  have m16 : (16 : Int) ≤ (C : Int) := by omega
  have m20 : (20 : Int) ≤ (C : Int) := by omega
  obtain ⟨r0, hr0⟩ : ∃ r0 : Bk, r0 = ⟨z 2, numZ z 4, numZ z 8, numZ z 12, numZ z 16, .slice none 0 0, 0, fun _ => 0⟩ := ⟨_, rfl⟩
  obtain ⟨wf, hf⟩ := stR (b := r0) hZ3.cx (by rw [hr0]; exact ⟨_, _, _, rfl⟩)
  have hcf : Ch (fun _ => False) w1 wf := (hcd.trans hZ3.ch).over hf.ch (by
    rw [← hZ3.sz]
    exact hcd.size)
  have HVF := Lib.hid (HV1.out.gr hcf)
  have HCUT : Hid (wf.heap[H3]? = some (.cells (bkC r0) 80 (0, 0)) ∧ Ch (fun _ => False) w1 wf ∧ H < H3) := Lib.hid ⟨hf.cx, hcf, by
    have h6 := blk_lt (o := .cells (bkC bk0) 80 (0, 0)) HZ.out.cx
    have h7 := hcd.size
    rw [← hZ3.sz]
    omega⟩
  have HF := Lib.hid hf
  have HZ3 := Lib.hid hZ3
  have HWD := Lib.hid hwd
  have HRR := Lib.hid hr0
  have hbd := built_bk (z 2) (numZ z 4) (numZ z 8) (numZ z 12) (numZ z 16)
  rw [← hr0] at hbd
  clear hwd hcd hZ3 hf hcf hr0
  go_upto_region 6 with fail
  go_cut [5] (fun v wx => v = .pointer (some ⟨H3, 0, none⟩) ∧ Hid (wx.heap[H3]? = some (.cells (bkC r0) 80 (0, 0)) ∧ Ch (fun _ => False) w1 wx ∧ H < H3))
  case first =>
    refine wp_region_held (S := fun W' => RowV W' (.slice (some ⟨b, o, none⟩) 256 C) 256 z) (by kernel_rfl) ?_
    change wpAnyH _ _ _ _ _ _ _ _ (World.drew _)
    rw [← HWD.out]
    have HS : (fun W' : World => RowV W' (.slice (some ⟨b, o, none⟩) 256 C) 256 z) wd := HVD.out
    refine wpAnyH_take (i := 0) (oi := ⟨some 19, .move (.tmp 0), _, _, _, none⟩) (v := .slice (some ⟨b, o, none⟩) 256 C) rfl (by kernel_rfl) (by kernel_rfl) (by kernel_rfl) (fun _ _ _ h => h) (Or.inl ⟨by rfl, fun w' hS => ?_⟩) HS ?_
    · clear hS; go_simp
    simp only [Act.put, List.setIfInBounds_toArray, List.set_cons_zero, List.set_cons_succ]
    refine wpAnyH_take (i := 1) (oi := ⟨some 20, .indexAddr /-t-/24 (.tmp 19) (.const (.int .i64 2)), _, _, _, none⟩) (v := .pointer (some ⟨b, o + 2, none⟩)) rfl (by kernel_rfl) (by kernel_rfl) (by kernel_rfl) (fun _ _ _ h => h) (Or.inl ⟨by rfl, fun w' hS => ?_⟩) HS ?_
    · clear hS; go_simp
    simp only [Act.put, List.setIfInBounds_toArray, List.set_cons_zero, List.set_cons_succ]
    refine wpAnyH_take (i := 2) (oi := ⟨some 21, .load /-t-/5 (.tmp 20), _, _, _, none⟩) (v := .int .u8 (z 2 : Int)) rfl (by kernel_rfl) (by kernel_rfl) (by kernel_rfl) (fun _ _ _ h => h) (Or.inl ⟨by rfl, fun w' hS => ?_⟩) HS ?_
    · have cc : w'.cell? ⟨b, o + 2, none⟩ = some (.int .u8 (z 2 : Int)) := by
        obtain ⟨_, _, e, hc⟩ := RowV.at hS (by omega)
        injection e with e
        injection e with e1 e2
        subst e1 e2
        exact hc 2 (by omega)
      clear hS
      go_simp
    simp only [Act.put, List.setIfInBounds_toArray, List.set_cons_zero, List.set_cons_succ]
    refine wpAnyH_take (i := 3) (oi := ⟨some 22, .convert /-t-/5 /-t-/3 (.tmp 21), _, _, _, none⟩) (v := .int .i64 (z 2 : Int)) rfl (by kernel_rfl) (by kernel_rfl) (by kernel_rfl) (fun _ _ _ h => h) (Or.inl ⟨by rfl, fun w' hS => ?_⟩) HS ?_
    · clear hS; go_simp
    simp only [Act.put, List.setIfInBounds_toArray, List.set_cons_zero, List.set_cons_succ]
    refine wpAnyH_take (i := 4) (oi := ⟨some 23, .move (.tmp 0), _, _, _, none⟩) (v := .slice (some ⟨b, o, none⟩) 256 C) rfl (by kernel_rfl) (by kernel_rfl) (by kernel_rfl) (fun _ _ _ h => h) (Or.inl ⟨by rfl, fun w' hS => ?_⟩) HS ?_
    · clear hS; go_simp
    simp only [Act.put, List.setIfInBounds_toArray, List.set_cons_zero, List.set_cons_succ]
    refine wpAnyH_take (i := 5) (oi := ⟨some 24, .slice /-t-/24 (.tmp 23) (some (.const (.int .i64 4))) (some (.const (.int .i64 8))) none, _, _, _, none⟩) (v := .slice (some ⟨b, o + 4, none⟩) 4 (C - 4)) rfl (by kernel_rfl) (by kernel_rfl) (by kernel_rfl) (fun _ _ _ h => h) (Or.inl ⟨by rfl, fun w' hS => ?_⟩) HS ?_
    · clear hS; go_simp
    simp only [Act.put, List.setIfInBounds_toArray, List.set_cons_zero, List.set_cons_succ]
    refine wpAnyH_take (i := 7) (oi := ⟨some 26, .move (.tmp 0), _, _, _, none⟩) (v := .slice (some ⟨b, o, none⟩) 256 C) rfl (by kernel_rfl) (by kernel_rfl) (by kernel_rfl) (fun _ _ _ h => h) (Or.inl ⟨by rfl, fun w' hS => ?_⟩) HS ?_
    · clear hS; go_simp
    simp only [Act.put, List.setIfInBounds_toArray, List.set_cons_zero, List.set_cons_succ]
    refine wpAnyH_take (i := 8) (oi := ⟨some 27, .slice /-t-/24 (.tmp 26) (some (.const (.int .i64 8))) (some (.const (.int .i64 12))) none, _, _, _, none⟩) (v := .slice (some ⟨b, o + 8, none⟩) 4 (C - 8)) rfl (by kernel_rfl) (by kernel_rfl) (by kernel_rfl) (fun _ _ _ h => h) (Or.inl ⟨by rfl, fun w' hS => ?_⟩) HS ?_
    · clear hS; go_simp
    simp only [Act.put, List.setIfInBounds_toArray, List.set_cons_zero, List.set_cons_succ]
    refine wpAnyH_take (i := 10) (oi := ⟨some 29, .move (.tmp 0), _, _, _, none⟩) (v := .slice (some ⟨b, o, none⟩) 256 C) rfl (by kernel_rfl) (by kernel_rfl) (by kernel_rfl) (fun _ _ _ h => h) (Or.inl ⟨by rfl, fun w' hS => ?_⟩) HS ?_
    · clear hS; go_simp
    simp only [Act.put, List.setIfInBounds_toArray, List.set_cons_zero, List.set_cons_succ]
    refine wpAnyH_take (i := 11) (oi := ⟨some 30, .slice /-t-/24 (.tmp 29) (some (.const (.int .i64 12))) (some (.const (.int .i64 16))) none, _, _, _, none⟩) (v := .slice (some ⟨b, o + 12, none⟩) 4 (C - 12)) rfl (by kernel_rfl) (by kernel_rfl) (by kernel_rfl) (fun _ _ _ h => h) (Or.inl ⟨by rfl, fun w' hS => ?_⟩) HS ?_
    · clear hS; go_simp
    simp only [Act.put, List.setIfInBounds_toArray, List.set_cons_zero, List.set_cons_succ]
    refine wpAnyH_take (i := 13) (oi := ⟨some 32, .move (.tmp 0), _, _, _, none⟩) (v := .slice (some ⟨b, o, none⟩) 256 C) rfl (by kernel_rfl) (by kernel_rfl) (by kernel_rfl) (fun _ _ _ h => h) (Or.inl ⟨by rfl, fun w' hS => ?_⟩) HS ?_
    · clear hS; go_simp
    simp only [Act.put, List.setIfInBounds_toArray, List.set_cons_zero, List.set_cons_succ]
    refine wpAnyH_take (i := 14) (oi := ⟨some 33, .slice /-t-/24 (.tmp 32) (some (.const (.int .i64 16))) (some (.const (.int .i64 20))) none, _, _, _, none⟩) (v := .slice (some ⟨b, o + 16, none⟩) 4 (C - 16)) rfl (by kernel_rfl) (by kernel_rfl) (by kernel_rfl) (fun _ _ _ h => h) (Or.inl ⟨by rfl, fun w' hS => ?_⟩) HS ?_
    · clear hS; go_simp
    simp only [Act.put, List.setIfInBounds_toArray, List.set_cons_zero, List.set_cons_succ]
    refine wpAnyH_ready (rs := [6, 17]) (by kernel_rfl) (by simp) ?_
    refine AllReadyH.cons rfl (fun K hK => ?_) (AllReadyH.cons rfl (fun K hK => ?_) AllReadyH.nil)
    · go_simp
      refine (HR4.out wd 4 (by omega) HVD.out).mono ?_
      rintro e w' ⟨rfl, rfl⟩
      dsimp only
      refine hK.out _ _ HVD.out (fun _ => ?_)
      clear hK K
      refine wpAnyH_ready (rs := [9, 17]) (by kernel_rfl) (by simp) ?_
      refine AllReadyH.cons rfl (fun K hK => ?_) (AllReadyH.cons rfl (fun K hK => ?_) AllReadyH.nil)
      · go_simp
        refine (HR4.out wd 8 (by omega) HVD.out).mono ?_
        rintro e w' ⟨rfl, rfl⟩
        dsimp only
        refine hK.out _ _ HVD.out (fun _ => ?_)
        clear hK K
        refine wpAnyH_ready (rs := [12, 17]) (by kernel_rfl) (by simp) ?_
        refine AllReadyH.cons rfl (fun K hK => ?_) (AllReadyH.cons rfl (fun K hK => ?_) AllReadyH.nil)
        · go_simp
          refine (HR4.out wd 12 (by omega) HVD.out).mono ?_
          rintro e w' ⟨rfl, rfl⟩
          dsimp only
          refine hK.out _ _ HVD.out (fun _ => ?_)
          clear hK K
          refine wpAnyH_ready (rs := [15, 17]) (by kernel_rfl) (by simp) ?_
          refine AllReadyH.cons rfl (fun K hK => ?_) (AllReadyH.cons rfl (fun K hK => ?_) AllReadyH.nil)
          · go_simp
            refine (HR4.out wd 16 (by omega) HVD.out).mono ?_
            rintro e w' ⟨rfl, rfl⟩
            dsimp only
            refine hK.out _ _ HVD.out (fun _ => ?_)
            clear hK K
            refine wpAnyH_take (i := 16) (oi := ⟨some 35, .build 80 #[(0, .tmp 22), (1, .tmp 25), (2, .tmp 28), (3, .tmp 31), (4, .tmp 34)], _, _, _, none⟩) (v := .agg (bkC r0)) rfl (by kernel_rfl) (by kernel_rfl) (by kernel_rfl) (fun _ _ _ h => h) (Or.inl ⟨by rfl, fun w' hS => ?_⟩) HVD.out ?_
            · clear hS
              go_simp
              rw [HRR.out]
              rfl
            simp only [Act.put, List.setIfInBounds_toArray, List.set_cons_zero, List.set_cons_succ]
            refine wpAnyH_ready (rs := [17]) (by kernel_rfl) (by simp) ?_
            refine AllReadyH.cons rfl (fun K hK => ?_) AllReadyH.nil
            refine step_making (o := ⟨some 5, .alloc 80, _, _, _, none⟩) we rfl 80 rfl (bkC bk0) H3 (zero_bk _) (by exact HZ3.out.sz) (by exact HZ3.out.al) ?_
            refine hK.out _ _ HVE.out (fun _ => ?_)
            clear hK K
            simp only [Act.put, List.setIfInBounds_toArray, List.set_cons_zero, List.set_cons_succ]
            refine wpAnyH_ready (rs := [18]) (by kernel_rfl) (by simp) ?_
            refine AllReadyH.cons rfl (fun K hK => ?_) AllReadyH.nil
            refine step_storing (o := ⟨none, .store 80 (.tmp 5) (.tmp 35), _, _, _, none⟩) wf rfl 80 (.tmp 5) (.tmp 35) rfl (.agg (bkC r0)) ⟨H3, 0, none⟩ (by first | (simp [Act.eval]; done) | simp [Act.eval, Act.put]) (by first | (simp [Act.eval]; done) | simp [Act.eval, Act.put]) (by exact HF.out.st) ?_
            refine hK.out _ _ HVF.out (fun _ => ?_)
            clear hK K
            simp only [Act.put]
            refine wpAnyH_done (by kernel_rfl) ?_ _
            go_wp2_with fail
            go_meet
            exact ⟨rfl, HCUT⟩
          · refine step_making (o := ⟨some 5, .alloc 80, _, _, _, none⟩) we rfl 80 rfl (bkC bk0) H3 (zero_bk _) (by exact HZ3.out.sz) (by exact HZ3.out.al) ?_
            refine hK.out _ _ HVE.out (fun _ => ?_)
            clear hK K
            simp only [Act.put, List.setIfInBounds_toArray, List.set_cons_zero, List.set_cons_succ]
            refine wpAnyH_ready (rs := [15]) (by kernel_rfl) (by simp) ?_
            refine AllReadyH.cons rfl (fun K hK => ?_) AllReadyH.nil
            go_simp
            refine (HR4.out we 16 (by omega) HVE.out).mono ?_
            rintro e w' ⟨rfl, rfl⟩
            dsimp only
            refine hK.out _ _ HVE.out (fun _ => ?_)
            clear hK K
            refine wpAnyH_take (i := 16) (oi := ⟨some 35, .build 80 #[(0, .tmp 22), (1, .tmp 25), (2, .tmp 28), (3, .tmp 31), (4, .tmp 34)], _, _, _, none⟩) (v := .agg (bkC r0)) rfl (by kernel_rfl) (by kernel_rfl) (by kernel_rfl) (fun _ _ _ h => h) (Or.inl ⟨by rfl, fun w' hS => ?_⟩) HVE.out ?_
            · clear hS
              go_simp
              rw [HRR.out]
              rfl
            simp only [Act.put, List.setIfInBounds_toArray, List.set_cons_zero, List.set_cons_succ]
            refine wpAnyH_ready (rs := [18]) (by kernel_rfl) (by simp) ?_
            refine AllReadyH.cons rfl (fun K hK => ?_) AllReadyH.nil
            refine step_storing (o := ⟨none, .store 80 (.tmp 5) (.tmp 35), _, _, _, none⟩) wf rfl 80 (.tmp 5) (.tmp 35) rfl (.agg (bkC r0)) ⟨H3, 0, none⟩ (by first | (simp [Act.eval]; done) | simp [Act.eval, Act.put]) (by first | (simp [Act.eval]; done) | simp [Act.eval, Act.put]) (by exact HF.out.st) ?_
            refine hK.out _ _ HVF.out (fun _ => ?_)
            clear hK K
            simp only [Act.put]
            refine wpAnyH_done (by kernel_rfl) ?_ _
            go_wp2_with fail
            go_meet
            exact ⟨rfl, HCUT⟩
        · refine step_making (o := ⟨some 5, .alloc 80, _, _, _, none⟩) we rfl 80 rfl (bkC bk0) H3 (zero_bk _) (by exact HZ3.out.sz) (by exact HZ3.out.al) ?_
          refine hK.out _ _ HVE.out (fun _ => ?_)
          clear hK K
          simp only [Act.put, List.setIfInBounds_toArray, List.set_cons_zero, List.set_cons_succ]
          refine wpAnyH_ready (rs := [12]) (by kernel_rfl) (by simp) ?_
          refine AllReadyH.cons rfl (fun K hK => ?_) AllReadyH.nil
          go_simp
          refine (HR4.out we 12 (by omega) HVE.out).mono ?_
          rintro e w' ⟨rfl, rfl⟩
          dsimp only
          refine hK.out _ _ HVE.out (fun _ => ?_)
          clear hK K
          refine wpAnyH_ready (rs := [15]) (by kernel_rfl) (by simp) ?_
          refine AllReadyH.cons rfl (fun K hK => ?_) AllReadyH.nil
          go_simp
          refine (HR4.out we 16 (by omega) HVE.out).mono ?_
          rintro e w' ⟨rfl, rfl⟩
          dsimp only
          refine hK.out _ _ HVE.out (fun _ => ?_)
          clear hK K
          refine wpAnyH_take (i := 16) (oi := ⟨some 35, .build 80 #[(0, .tmp 22), (1, .tmp 25), (2, .tmp 28), (3, .tmp 31), (4, .tmp 34)], _, _, _, none⟩) (v := .agg (bkC r0)) rfl (by kernel_rfl) (by kernel_rfl) (by kernel_rfl) (fun _ _ _ h => h) (Or.inl ⟨by rfl, fun w' hS => ?_⟩) HVE.out ?_
          · clear hS
            go_simp
            rw [HRR.out]
            rfl
          simp only [Act.put, List.setIfInBounds_toArray, List.set_cons_zero, List.set_cons_succ]
          refine wpAnyH_ready (rs := [18]) (by kernel_rfl) (by simp) ?_
          refine AllReadyH.cons rfl (fun K hK => ?_) AllReadyH.nil
          refine step_storing (o := ⟨none, .store 80 (.tmp 5) (.tmp 35), _, _, _, none⟩) wf rfl 80 (.tmp 5) (.tmp 35) rfl (.agg (bkC r0)) ⟨H3, 0, none⟩ (by first | (simp [Act.eval]; done) | simp [Act.eval, Act.put]) (by first | (simp [Act.eval]; done) | simp [Act.eval, Act.put]) (by exact HF.out.st) ?_
          refine hK.out _ _ HVF.out (fun _ => ?_)
          clear hK K
          simp only [Act.put]
          refine wpAnyH_done (by kernel_rfl) ?_ _
          go_wp2_with fail
          go_meet
          exact ⟨rfl, HCUT⟩
      · refine step_making (o := ⟨some 5, .alloc 80, _, _, _, none⟩) we rfl 80 rfl (bkC bk0) H3 (zero_bk _) (by exact HZ3.out.sz) (by exact HZ3.out.al) ?_
        refine hK.out _ _ HVE.out (fun _ => ?_)
        clear hK K
        simp only [Act.put, List.setIfInBounds_toArray, List.set_cons_zero, List.set_cons_succ]
        refine wpAnyH_ready (rs := [9]) (by kernel_rfl) (by simp) ?_
        refine AllReadyH.cons rfl (fun K hK => ?_) AllReadyH.nil
        go_simp
        refine (HR4.out we 8 (by omega) HVE.out).mono ?_
        rintro e w' ⟨rfl, rfl⟩
        dsimp only
        refine hK.out _ _ HVE.out (fun _ => ?_)
        clear hK K
        refine wpAnyH_ready (rs := [12]) (by kernel_rfl) (by simp) ?_
        refine AllReadyH.cons rfl (fun K hK => ?_) AllReadyH.nil
        go_simp
        refine (HR4.out we 12 (by omega) HVE.out).mono ?_
        rintro e w' ⟨rfl, rfl⟩
        dsimp only
        refine hK.out _ _ HVE.out (fun _ => ?_)
        clear hK K
        refine wpAnyH_ready (rs := [15]) (by kernel_rfl) (by simp) ?_
        refine AllReadyH.cons rfl (fun K hK => ?_) AllReadyH.nil
        go_simp
        refine (HR4.out we 16 (by omega) HVE.out).mono ?_
        rintro e w' ⟨rfl, rfl⟩
        dsimp only
        refine hK.out _ _ HVE.out (fun _ => ?_)
        clear hK K
        refine wpAnyH_take (i := 16) (oi := ⟨some 35, .build 80 #[(0, .tmp 22), (1, .tmp 25), (2, .tmp 28), (3, .tmp 31), (4, .tmp 34)], _, _, _, none⟩) (v := .agg (bkC r0)) rfl (by kernel_rfl) (by kernel_rfl) (by kernel_rfl) (fun _ _ _ h => h) (Or.inl ⟨by rfl, fun w' hS => ?_⟩) HVE.out ?_
        · clear hS
          go_simp
          rw [HRR.out]
          rfl
        simp only [Act.put, List.setIfInBounds_toArray, List.set_cons_zero, List.set_cons_succ]
        refine wpAnyH_ready (rs := [18]) (by kernel_rfl) (by simp) ?_
        refine AllReadyH.cons rfl (fun K hK => ?_) AllReadyH.nil
        refine step_storing (o := ⟨none, .store 80 (.tmp 5) (.tmp 35), _, _, _, none⟩) wf rfl 80 (.tmp 5) (.tmp 35) rfl (.agg (bkC r0)) ⟨H3, 0, none⟩ (by first | (simp [Act.eval]; done) | simp [Act.eval, Act.put]) (by first | (simp [Act.eval]; done) | simp [Act.eval, Act.put]) (by exact HF.out.st) ?_
        refine hK.out _ _ HVF.out (fun _ => ?_)
        clear hK K
        simp only [Act.put]
        refine wpAnyH_done (by kernel_rfl) ?_ _
        go_wp2_with fail
        go_meet
        exact ⟨rfl, HCUT⟩
    · refine step_making (o := ⟨some 5, .alloc 80, _, _, _, none⟩) we rfl 80 rfl (bkC bk0) H3 (zero_bk _) (by exact HZ3.out.sz) (by exact HZ3.out.al) ?_
      refine hK.out _ _ HVE.out (fun _ => ?_)
      clear hK K
      simp only [Act.put, List.setIfInBounds_toArray, List.set_cons_zero, List.set_cons_succ]
      refine wpAnyH_ready (rs := [6]) (by kernel_rfl) (by simp) ?_
      refine AllReadyH.cons rfl (fun K hK => ?_) AllReadyH.nil
      go_simp
      refine (HR4.out we 4 (by omega) HVE.out).mono ?_
      rintro e w' ⟨rfl, rfl⟩
      dsimp only
      refine hK.out _ _ HVE.out (fun _ => ?_)
      clear hK K
      refine wpAnyH_ready (rs := [9]) (by kernel_rfl) (by simp) ?_
      refine AllReadyH.cons rfl (fun K hK => ?_) AllReadyH.nil
      go_simp
      refine (HR4.out we 8 (by omega) HVE.out).mono ?_
      rintro e w' ⟨rfl, rfl⟩
      dsimp only
      refine hK.out _ _ HVE.out (fun _ => ?_)
      clear hK K
      refine wpAnyH_ready (rs := [12]) (by kernel_rfl) (by simp) ?_
      refine AllReadyH.cons rfl (fun K hK => ?_) AllReadyH.nil
      go_simp
      refine (HR4.out we 12 (by omega) HVE.out).mono ?_
      rintro e w' ⟨rfl, rfl⟩
      dsimp only
      refine hK.out _ _ HVE.out (fun _ => ?_)
      clear hK K
      refine wpAnyH_ready (rs := [15]) (by kernel_rfl) (by simp) ?_
      refine AllReadyH.cons rfl (fun K hK => ?_) AllReadyH.nil
      go_simp
      refine (HR4.out we 16 (by omega) HVE.out).mono ?_
      rintro e w' ⟨rfl, rfl⟩
      dsimp only
      refine hK.out _ _ HVE.out (fun _ => ?_)
      clear hK K
      refine wpAnyH_take (i := 16) (oi := ⟨some 35, .build 80 #[(0, .tmp 22), (1, .tmp 25), (2, .tmp 28), (3, .tmp 31), (4, .tmp 34)], _, _, _, none⟩) (v := .agg (bkC r0)) rfl (by kernel_rfl) (by kernel_rfl) (by kernel_rfl) (fun _ _ _ h => h) (Or.inl ⟨by rfl, fun w' hS => ?_⟩) HVE.out ?_
      · clear hS
        go_simp
        rw [HRR.out]
        rfl
      simp only [Act.put, List.setIfInBounds_toArray, List.set_cons_zero, List.set_cons_succ]
      refine wpAnyH_ready (rs := [18]) (by kernel_rfl) (by simp) ?_
      refine AllReadyH.cons rfl (fun K hK => ?_) AllReadyH.nil
      refine step_storing (o := ⟨none, .store 80 (.tmp 5) (.tmp 35), _, _, _, none⟩) wf rfl 80 (.tmp 5) (.tmp 35) rfl (.agg (bkC r0)) ⟨H3, 0, none⟩ (by first | (simp [Act.eval]; done) | simp [Act.eval, Act.put]) (by first | (simp [Act.eval]; done) | simp [Act.eval, Act.put]) (by exact HF.out.st) ?_
      refine hK.out _ _ HVF.out (fun _ => ?_)
      clear hK K
      simp only [Act.put]
      refine wpAnyH_done (by kernel_rfl) ?_ _
      go_wp2_with fail
      go_meet
      exact ⟨rfl, HCUT⟩
  case rest =>
    obtain ⟨rfl, HSV⟩ := hcut
    obtain ⟨J, hJ⟩ : ∃ J, J = 24 + X := ⟨_, rfl⟩
    have e1 : IntKind.i64.wrap (24 + (X : Int)) = (J : Int) := by rw [IntKind.wrap_i64]; omega
    have j1 : (24 : Int) ≤ (J : Int) := by omega
    have j2 : (J : Int) ≤ (C : Int) := by omega
    have jX : J - 24 = X := by omega
    clear hJ
    have hVc := HV1.out.gr HSV.out.2.1
    have hBR : RowV wc (.slice (some ⟨b, o + 24, none⟩) X (C - 24)) X (bodyZ z) := row_front (row_tail hVc (show 24 ≤ 256 by omega)) (by omega)
    obtain ⟨v1, w3, hr3, ho3, hc3⟩ := app_copy hBR (by omega)
    obtain ⟨A3, C3, rfl⟩ := own_slice ho3
    have hx3 : w3.heap[H3]? = some (.cells (bkC r0) 80 (0, 0)) := (hc3.block H3 (blk_lt HSV.out.1) (fun f => f)).trans HSV.out.1
    obtain ⟨r, hr⟩ : ∃ r, r = readB (.slice A3 X C3) z := ⟨_, rfl⟩
    have hset : (bkC r0).setIfInBounds 5 (.slice A3 X C3) = bkC r := by rw [hr, HRR.out]; rfl
    have hrV : r.V = .slice A3 X C3 := by rw [hr]; rfl
    have hrL : r.len = X := by rw [hr, HRL.out]; rfl
    have f5 := blk_frozen (i := 5) hx3
    have c5 : w3.cell? ⟨H3, 5, none⟩ = some (.slice none 0 0) := by rw [blk_cell hx3, HRR.out]; rfl
    obtain ⟨w4, hw4⟩ : ∃ w4, w4 = w3.setCell ⟨H3, 5, none⟩ (.slice A3 X C3) := ⟨_, rfl⟩
    have hx4 : w4.heap[H3]? = some (.cells (bkC r) 80 (0, 0)) := by
      rw [hw4, ← hset]
      exact blk_set hx3 _
    have hH1 : H < w1.heap.size := blk_lt (o := .cells (bkC bk0) 80 (0, 0)) HZ.out.cx
    have hH3 : w1.heap.size ≤ H3 := by
      rw [← HZ3.out.sz, HWD.out]
      exact Nat.le_refl _
    have hc14 : Ch (fun _ => False) w1 w4 := by
      rw [hw4]
      exact (HSV.out.2.1.trans hc3).setCell (p := ⟨H3, 5, none⟩) (Or.inr hH3) _
    have ho4 : w4.ownsRow wc.heap.size /-t-/5 1 (.slice A3 X C3) X (bytesL X (bodyZ z)) := own_of ho3 (fun i hi => by
      rw [hw4]
      refine Below.heap_setCell w3 _ _ i (fun e => ?_)
      have e5 : i = H3 := e
      have h5 := (World.ownsRow.lt ho3 i hi).1
      have h6 := blk_lt HSV.out.1
      omega)
    have hr4 : BkIs w4 r := by
      have hrow := ownsRow_rowV ho4 (by omega) (fun c hc => HBY.out _ (by omega))
      rw [HRL.out] at hrow
      rw [hr, HRL.out]
      exact readB_is HBY.out hrow
    have HR3 := Lib.hid hr3
    have HC14 := Lib.hid hc14
    have HX4 := Lib.hid hx4
    have HL4 := Lib.hid (load_bk hx4)
    have HB4 := Lib.hid hr4
    have HV4 := Lib.hid (HV1.out.gr hc14)
    have HRV := Lib.hid (show r.V = .slice A3 r.len C3 by rw [hrL]; exact hrV)
    have HSE := Lib.hid (show mayB (readB undef z) = mayB r by rw [hr]; rfl)
    have HSZ := Lib.hid (show sectZ (readB undef z) = sectZ r by rw [hr]; rfl)
    have HRD := Lib.hid hr
    have HO4 := Lib.hid ho4
    have HW4 := Lib.hid hw4
    have HH := Lib.hid (And.intro hH1 hH3)
    have HWC := Lib.hid HSV.out.2.1.size
    clear hVc hBR hr3 ho3 hc3 hx3 hset hrV hrL hx4 hH1 hH3 hc14 ho4 hr4 hr HSV HCUT HF HVF HVD HVE HR4 hbd hw4
    go_wp2_with (first
      | (at_builtin; refine wpList_app_of _ rfl (.const (.slice none 0 0)) (.tmp 39) rfl rfl (.slice none 0 0) (.slice (some ⟨b, o + 24, none⟩) X (C - 24)) (.slice A3 X C3) w3 rfl (by simp [Act.eval]) HR3.out ?_)
      | ((with_reducible refine wpList_isOp (.load 80 (.tmp 5)) rfl ?_); rw [← HW4.out]; refine wpList_loading _ rfl 80 (.tmp 5) rfl (.agg (bkC r)) ⟨H3, 0, none⟩ rfl (by exact HL4.out) ?_))
    refine (rsealB_any r A3 C3 _ HRV.out HB4.out).mono ?_
    rintro e w5 ⟨A5, C5, rfl, ho5, hc5⟩
    have HC15 := Lib.hid (HC14.out.trans hc5)
    have HS5 := Lib.hid (ownsRow_rowV ho5 (by unfold sealN; split <;> omega) (sectZ_b HB4.out.row.bytes _))
    have HV5 := Lib.hid (HV4.out.gr hc5)
    have HX5 := Lib.hid ((hc5.block H3 (blk_lt HX4.out) (fun f => f)).trans HX4.out)
    have HO5 := Lib.hid (ownsRow_ch HO4.out hc5)
    have HB5 := Lib.hid (HB4.out.gr hc5)
    clear ho5 hc5
    go_wp2_with fail
    refine (same_any _ _ 256 _ _ _ _ _ _ HV5.out HS5.out).mono ?_
    rintro e w6 ⟨rfl, d, hw6⟩
    have hc6 : Ch (fun _ => False) w5 w6 := by rw [hw6]; exact (Ch.refl _ w5).drewN d
    have HL6 := Lib.hid (load_bk ((hc6.block H3 (blk_lt HX5.out) (fun f => f)).trans HX5.out))
    have HC16 := Lib.hid (HC15.out.trans hc6)
    have HO6 := Lib.hid (ownsRow_ch HO5.out hc6)
    have HB6 := Lib.hid (HB5.out.gr hc6)
    have hcx1 : w6.heap[H]? = some (.cells (bkC bk0) 80 (0, 0)) := (HC16.out.block H HH.out.1 (fun f => f)).trans HZ.out.cx
    obtain ⟨wn, hn⟩ := stR (b := bk0) hcx1 bk0_V
    obtain ⟨wy, hy⟩ := stR (b := r) hcx1 ⟨_, _, _, HRV.out⟩
    have hH : w.heap.size ≤ H := by rw [HZ.out.sz]; exact Nat.le_refl _
    have HN := Lib.hid hn
    have HY := Lib.hid hy
    have HPN := Lib.hid (show opensB 256 z = false → OpenPost 256 z w (.returned (.tuple #[.agg (bkC bk0), .int .i64 7])) wn from fun q =>
      openPost_no q (by rw [openE_at, q]; rfl) ((HZ.out.ch.trans HC16.out).over hn.ch hH))
    have HPY := Lib.hid (show opensB 256 z = true → OpenPost 256 z w (.returned (.tuple #[.agg (bkC r), .int .i64 0])) wy from fun q => by
      have hb : BkIs wy r := by
        have hb6 := HB6.out
        have hoy : wy.ownsRow wc.heap.size /-t-/5 1 (.slice A3 X C3) X (bytesL X (bodyZ z)) := own_of HO6.out (fun i hi => hy.ch.block i (World.ownsRow.lt HO6.out i hi).2 (fun e => by
          have h5 := (World.ownsRow.lt HO6.out i hi).1
          have h6 := HWC.out
          have h7 := HH.out.1
          omega))
        refine ⟨hb6.kind, hb6.vol, hb6.addr, hb6.epoch, hb6.seq, ?_⟩
        have hrow := ownsRow_rowV hoy (by omega) (fun c hc => HBY.out _ (by omega))
        rw [HRL.out] at hrow
        rw [HRD.out, HRL.out]
        exact hrow
      rw [HRD.out] at hb ⊢
      exact openPost_yes q (by rw [openE_at, q]; rfl) hb ((HZ.out.ch.trans HC16.out).over hy.ch hH))
    have HAT := Lib.hid (show opensB 256 z = (decide (sealE r = 0) && eqB 256 (sealN r) z (sectZ r)) from opensB_seal HSE.out HSZ.out)
    obtain ⟨q, hq⟩ : ∃ q, q = eqB 256 (sealN r) z (sectZ r) := ⟨_, rfl⟩
    obtain ⟨E, hE⟩ : ∃ E, E = sealE r := ⟨_, rfl⟩
    rw [← hq, ← hE] at HAT
    rw [← hq, ← hE]
    clear hn hy hcx1 hq hE hw6 hc6
    by_cases h0 : E = 0
    · subst h0
      have HQ := Lib.hid (show opensB 256 z = q by rw [HAT.out]; rfl)
      cases q
      · go_wp2_with ((with_reducible refine wpList_isOp (.store 80 (.tmp 2) (.tmp 56)) rfl ?_); refine wpList_storing _ wn rfl 80 (.tmp 2) (.tmp 56) rfl (.agg (bkC bk0)) ⟨H, 0, none⟩ rfl rfl (by exact HN.out.st) ?_)
        exact bodyPost_ret (v := .tuple #[.agg (bkC bk0), .int .i64 7]) (results_bk Tryz.results50 _ _ H bk0 rfl HN.out.cx) rfl (HPN.out HQ.out)
      · go_wp2_with (first
          | ((with_reducible refine wpList_isOp (.load 80 (.tmp 5)) rfl ?_); refine wpList_loading _ rfl 80 (.tmp 5) rfl (.agg (bkC r)) ⟨H3, 0, none⟩ rfl (by exact HL6.out) ?_)
          | ((with_reducible refine wpList_isOp (.store 80 (.tmp 2) (.tmp 57)) rfl ?_); refine wpList_storing _ wy rfl 80 (.tmp 2) (.tmp 57) rfl (.agg (bkC r)) ⟨H, 0, none⟩ rfl rfl (by exact HY.out.st) ?_))
        exact bodyPost_ret (v := .tuple #[.agg (bkC r), .int .i64 0]) (results_bk Tryz.results50 _ _ H r rfl HY.out.cx) rfl (HPY.out HQ.out)
    · have HQ := Lib.hid (show opensB 256 z = false by rw [HAT.out, decide_eq_false h0, Bool.false_and])
      have t3 : (E != 0) = true := by simpa using h0
      clear h0
      go_wp2_with ((with_reducible refine wpList_isOp (.store 80 (.tmp 2) (.tmp 56)) rfl ?_); refine wpList_storing _ wn rfl 80 (.tmp 2) (.tmp 56) rfl (.agg (bkC bk0)) ⟨H, 0, none⟩ rfl rfl (by exact HN.out.st) ?_)
      exact bodyPost_ret (v := .tuple #[.agg (bkC bk0), .int .i64 7]) (results_bk Tryz.results50 _ _ H bk0 rfl HN.out.cx) rfl (HPN.out HQ.out)
theorem ropen_any (A : Option Addr) (n C : Nat) (z : Nat → Nat) (w : World) (h : RowV w (.slice A n C) n z) : Calls Tryz.prog 50 #[.slice A n C] w (OpenPost n z w) := by
  by_cases e : n = 256
  · subst e; exact ropen_at A C z w h
  · obtain ⟨_, _, _, h2, _⟩ := id h
    exact ropen_long A n C z w h2.1 e
end Go.Proofs.YteleknojohnlbaaGreat
