/-
  BlockOpens, walked.
-/
import Derived.Test.YtennkpjmdhidaaaBlkL1
namespace Go.Proofs.Ytennkpjmdhidaaa
open Go.RowKit
set_option linter.unusedVariables false

theorem like_open (n : Nat) (z : Nat → Nat) (V U : Value) : likeB (openB n z V) (openB n z U) = true := by
  have key : ∀ a b : Bk, a.kind = b.kind → a.vol = b.vol → a.addr = b.addr → a.epoch = b.epoch → a.seq = b.seq → a.len = b.len → a.z = b.z → likeB a b = true := fun a b h1 h2 h3 h4 h5 h6 h7 => by
    unfold likeB
    rw [h1, h2, h3, h4, h5, h6, h7]
    have : eqB b.len b.len b.z b.z = true := decide_eq_true ⟨rfl, fun _ _ => rfl⟩
    rw [this]
    simp
  cases h : opensB n z
  · rw [openB_no h, openB_no h]
    exact key _ _ rfl rfl rfl rfl rfl rfl rfl
  · rw [openB_yes h, openB_yes h]
    exact key _ _ rfl rfl rfl rfl rfl rfl rfl
set_option maxHeartbeats 3200000 in
set_option maxRecDepth 100000 in
theorem blockOpens_any (A : Option Addr) (n C : Nat) (z : Nat → Nat) (b : Bk) (w : World) (ha : RowV w (.slice A n C) n z) : Calls Try.prog 4 #[.slice A n C, .agg (bkC b)] w (Told w) := by
  have hl : n ≤ 140737488351232 := by
    obtain ⟨_, _, _, h, _⟩ := id ha
    exact h.1
  obtain ⟨w1, H, hR⟩ := bkR w b
  have HV1 := Lib.hid (ha.gr hR.ch)
  have HX1 := Lib.hid hR.cx
  have HR := Lib.hid hR
  clear ha hR
  go_enter Try.func4, Try.ntmps4
  go_wp2_with ((with_reducible refine wpList_isOp (.box 24 (.tmp 1)) rfl ?_); refine wpList_boxing _ w1 rfl 24 (.tmp 1) rfl (bkC b) H rfl (by exact HR.out.sz) (by exact HR.out.al) ?_)
  refine (awake_any _).mono ?_
  rintro e w2 ⟨rfl, hc2⟩
  have HX2 := Lib.hid (block_stays HX1.out hc2)
  have HV2 := Lib.hid (HV1.out.gr hc2)
  have HC2 := Lib.hid (HR.out.ch.trans hc2)
  clear hc2
  by_cases hbig : n ≤ 600
  case neg =>
    have t1 : decide ((600 : Int) < (n : Int)) = true := by simp; omega
    go_wp2
    go_ret
    exact ⟨rfl, HC2.out⟩
  have t1 : decide ((600 : Int) < (n : Int)) = false := by simp; omega
  go_wp2_with fail
  refine (open_any A n C z _ HV2.out).mono ?_
  rintro e w3 ⟨V, rfl, hb3, hc3⟩
  obtain ⟨r, hr⟩ : ∃ r, r = openB n z V := ⟨_, rfl⟩
  rw [← hr] at hb3 ⊢
  obtain ⟨w4, H4, hZ4⟩ := zeR w3
  obtain ⟨AV, CV, hrV, _⟩ := hb3.len
  obtain ⟨w5, h5⟩ := stR (b := r) hZ4.cx ⟨_, _, _, hrV⟩
  have hc5 : Ch (fun _ => False) w3 w5 := hZ4.ch.over h5.ch (by rw [hZ4.sz]; exact Nat.le_refl _)
  have HX5 := Lib.hid (block_stays HX2.out (hc3.trans hc5))
  have HY5 := Lib.hid h5.cx
  have HV5 := Lib.hid (HV2.out.gr (hc3.trans hc5))
  have HC5 := Lib.hid (HC2.out.trans (hc3.trans hc5))
  have HB5 := Lib.hid (hb3.gr hc5)
  have HZ4 := Lib.hid hZ4
  have H5 := Lib.hid h5
  have HRR := Lib.hid hr
  obtain ⟨E, hE⟩ : ∃ E, E = openE n z := ⟨_, rfl⟩
  have HE := Lib.hid hE
  rw [← hE]
  clear hb3 hZ4 h5 hc3 hc5 hr hE
  go_wp2_with (first
    | ((with_reducible refine wpList_isOp (.alloc 24) rfl ?_); refine wpList_making _ w4 rfl 24 rfl (bkC bk0) H4 (zero_bk _) (by exact HZ4.out.sz) (by exact HZ4.out.al) ?_)
    | ((with_reducible refine wpList_isOp (.store 24 (.tmp 6) (.tmp 23)) rfl ?_); refine wpList_storing _ w5 rfl 24 (.tmp 6) (.tmp 23) rfl (.agg (bkC r)) ⟨H4, 0, none⟩ rfl rfl (by exact H5.out.st) ?_))
  refine (ropen_any A n C z _ HV5.out).mono ?_
  rintro e w6 ⟨U, rfl, hb6, hc6⟩
  obtain ⟨s, hs⟩ : ∃ s, s = openB n z U := ⟨_, rfl⟩
  rw [← hs] at hb6 ⊢
  rw [← HE.out]
  obtain ⟨w7, H7, hZ7⟩ := zeR w6
  obtain ⟨AU, CU, hsV, _⟩ := hb6.len
  obtain ⟨w8, h8⟩ := stR (b := s) hZ7.cx ⟨_, _, _, hsV⟩
  have hc8 : Ch (fun _ => False) w6 w8 := hZ7.ch.over h8.ch (by rw [hZ7.sz]; exact Nat.le_refl _)
  have HX8 := Lib.hid (block_stays HX5.out (hc6.trans hc8))
  have HY8 := Lib.hid (load_bk (block_stays HY5.out (hc6.trans hc8)))
  have HS8 := Lib.hid (load_bk h8.cx)
  have HV8 := Lib.hid (HV5.out.gr (hc6.trans hc8))
  have HC8 := Lib.hid (HC5.out.trans (hc6.trans hc8))
  have HB8 := Lib.hid (HB5.out.gr (hc6.trans hc8))
  have HBS := Lib.hid (hb6.gr hc8)
  have HZ7 := Lib.hid hZ7
  have H8 := Lib.hid h8
  have HLK := Lib.hid (show likeB r s = true by rw [HRR.out, hs]; exact like_open n z V U)
  clear hb6 hZ7 h8 hc6 hc8 hs
  go_wp2_with (first
    | ((with_reducible refine wpList_isOp (.alloc 24) rfl ?_); refine wpList_making _ w7 rfl 24 rfl (bkC bk0) H7 (zero_bk _) (by exact HZ7.out.sz) (by exact HZ7.out.al) ?_)
    | ((with_reducible refine wpList_isOp (.store 24 (.tmp 8) (.tmp 28)) rfl ?_); refine wpList_storing _ w8 rfl 24 (.tmp 8) (.tmp 28) rfl (.agg (bkC s)) ⟨H7, 0, none⟩ rfl rfl (by exact H8.out.st) ?_)
    | ((with_reducible refine wpList_isOp (.load 24 (.tmp 6)) rfl ?_); refine wpList_loading _ rfl 24 (.tmp 6) rfl (.agg (bkC r)) ⟨H4, 0, none⟩ rfl (by exact HY8.out) ?_)
    | ((with_reducible refine wpList_isOp (.load 24 (.tmp 8)) rfl ?_); refine wpList_loading _ rfl 24 (.tmp 8) rfl (.agg (bkC s)) ⟨H7, 0, none⟩ rfl (by exact HS8.out) ?_))
  refine (sameB_any r s _ HB8.out HBS.out).mono ?_
  rintro e w9 ⟨rfl, hc9⟩
  rw [HLK.out]
  have HX9 := Lib.hid (block_stays HX8.out hc9)
  have HC9 := Lib.hid (HC8.out.trans hc9)
  have HV9 := Lib.hid (HV8.out.gr hc9)
  obtain ⟨m, hm⟩ : ∃ m, m = classOf n z b := ⟨_, rfl⟩
  have HM := Lib.hid hm
  have t2 : (E == E) = true := by simp
  have t3 : (m == m) = true := by simp
  clear hc9 hm
  obtain ⟨wd, hwd⟩ : ∃ wd, wd = w9.drew := ⟨_, rfl⟩
  have hcd : Ch (fun _ => False) w9 wd := by rw [hwd]; exact (Ch.refl _ w9).drew
  have HXD := Lib.hid (block_stays HX9.out hcd)
  have HCD := Lib.hid (HC9.out.trans hcd)
  have HVD := Lib.hid (HV9.out.gr hcd)
  have HWD := Lib.hid hwd
  clear hwd hcd
  go_upto_region 7 with fail
  refine wp_region_held (S := fun W' => W'.heap[H]? = some (.cells (bkC b) 24 (0, 0))) (by kernel_rfl) ?_
  change wpAnyH _ _ _ _ _ _ _ _ (World.drew _)
  rw [← HWD.out]
  have HS : (fun W' : World => W'.heap[H]? = some (.cells (bkC b) 24 (0, 0))) wd := HXD.out
  refine wpAnyH_take (i := 0) (oi := ⟨some 33, .move (.tmp 10), _, _, _, none⟩) (v := .bool true) rfl (by kernel_rfl) (by kernel_rfl) (by kernel_rfl) (fun _ _ _ h => h) (Or.inl ⟨by rfl, fun w' hS => ?_⟩) HS ?_
  · clear hS; go_simp
  simp only [Act.put, List.setIfInBounds_toArray, List.set_cons_zero, List.set_cons_succ]
  refine wpAnyH_take (i := 1) (oi := ⟨some 34, .move (.tmp 33), _, _, _, none⟩) (v := .bool true) rfl (by kernel_rfl) (by kernel_rfl) (by kernel_rfl) (fun _ _ _ h => h) (Or.inl ⟨by rfl, fun w' hS => ?_⟩) HS ?_
  · clear hS; go_simp
  simp only [Act.put, List.setIfInBounds_toArray, List.set_cons_zero, List.set_cons_succ]
  refine wpAnyH_take (i := 2) (oi := ⟨some 35, .move (.tmp 7), _, _, _, some (1, true)⟩) (v := .int .i64 E) rfl (by kernel_rfl) (by kernel_rfl) (by kernel_rfl) (fun _ _ _ h => h) (Or.inl ⟨by rfl, fun w' hS => ?_⟩) HS ?_
  · clear hS; go_simp
  simp only [Act.put, List.setIfInBounds_toArray, List.set_cons_zero, List.set_cons_succ]
  refine wpAnyH_take (i := 3) (oi := ⟨some 36, .move (.tmp 9), _, _, _, some (1, true)⟩) (v := .int .i64 E) rfl (by kernel_rfl) (by kernel_rfl) (by kernel_rfl) (fun _ _ _ h => h) (Or.inl ⟨by rfl, fun w' hS => ?_⟩) HS ?_
  · clear hS; go_simp
  simp only [Act.put, List.setIfInBounds_toArray, List.set_cons_zero, List.set_cons_succ]
  refine wpAnyH_take (i := 4) (oi := ⟨some 37, .binOp .eql 26 (.tmp 35) (.tmp 36) 26, _, _, _, some (1, true)⟩) (v := .bool true) rfl (by kernel_rfl) (by kernel_rfl) (by kernel_rfl) (fun _ _ _ h => h) (Or.inl ⟨by rfl, fun w' hS => ?_⟩) HS ?_
  · clear hS; go_simp
  simp only [Act.put, List.setIfInBounds_toArray, List.set_cons_zero, List.set_cons_succ]
  refine wpAnyH_take (i := 5) (oi := ⟨some 38, .pick (.tmp 34) (.tmp 37) (.const (.bool false)), _, _, _, none⟩) (v := .bool true) rfl (by kernel_rfl) (by kernel_rfl) (by kernel_rfl) (fun _ _ _ h => h) (Or.inl ⟨by rfl, fun w' hS => ?_⟩) HS ?_
  · clear hS; go_simp
  simp only [Act.put, List.setIfInBounds_toArray, List.set_cons_zero, List.set_cons_succ]
  refine wpAnyH_take (i := 6) (oi := ⟨some 39, .move (.tmp 38), _, _, _, none⟩) (v := .bool true) rfl (by kernel_rfl) (by kernel_rfl) (by kernel_rfl) (fun _ _ _ h => h) (Or.inl ⟨by rfl, fun w' hS => ?_⟩) HS ?_
  · clear hS; go_simp
  simp only [Act.put, List.setIfInBounds_toArray, List.set_cons_zero, List.set_cons_succ]
  refine wpAnyH_take (i := 7) (oi := ⟨some 40, .move (.tmp 0), _, _, _, some (6, true)⟩) (v := .slice A n C) rfl (by kernel_rfl) (by kernel_rfl) (by kernel_rfl) (fun _ _ _ h => h) (Or.inl ⟨by rfl, fun w' hS => ?_⟩) HS ?_
  · clear hS; go_simp
  simp only [Act.put, List.setIfInBounds_toArray, List.set_cons_zero, List.set_cons_succ]
  refine wpAnyH_take (i := 8) (oi := ⟨some 41, .load 24 (.tmp 3), _, _, _, some (6, true)⟩) (v := .agg (bkC b)) rfl (by kernel_rfl) (by kernel_rfl) (by kernel_rfl) (fun _ _ _ h => h) (Or.inl ⟨by rfl, exec_load _ (.tmp 3) rfl _ ⟨H, 0, none⟩ (by first | (simp [Act.eval]; done) | simp [Act.eval, Act.put]) (fun w' hS => load_bk hS)⟩) HS ?_
  simp only [Act.put, List.setIfInBounds_toArray, List.set_cons_zero, List.set_cons_succ]
  refine wpAnyH_take (i := 10) (oi := ⟨some 43, .move (.tmp 0), _, _, _, some (6, true)⟩) (v := .slice A n C) rfl (by kernel_rfl) (by kernel_rfl) (by kernel_rfl) (fun _ _ _ h => h) (Or.inl ⟨by rfl, fun w' hS => ?_⟩) HS ?_
  · clear hS; go_simp
  simp only [Act.put, List.setIfInBounds_toArray, List.set_cons_zero, List.set_cons_succ]
  refine wpAnyH_take (i := 11) (oi := ⟨some 44, .load 24 (.tmp 3), _, _, _, some (6, true)⟩) (v := .agg (bkC b)) rfl (by kernel_rfl) (by kernel_rfl) (by kernel_rfl) (fun _ _ _ h => h) (Or.inl ⟨by rfl, exec_load _ (.tmp 3) rfl _ ⟨H, 0, none⟩ (by first | (simp [Act.eval]; done) | simp [Act.eval, Act.put]) (fun w' hS => load_bk hS)⟩) HS ?_
  simp only [Act.put, List.setIfInBounds_toArray, List.set_cons_zero, List.set_cons_succ]
  refine wpAnyH_ready (rs := [9]) (by kernel_rfl) (by simp) ?_
  refine AllReadyH.cons rfl (fun K hK => ?_) AllReadyH.nil
  go_simp
  refine (class_any A n C z b _ HVD.out).mono ?_
  rintro e w10 ⟨rfl, hc10⟩
  rw [← HM.out]
  have HX10 := Lib.hid (block_stays HXD.out hc10)
  have HC10 := Lib.hid (HCD.out.trans hc10)
  have HV10 := Lib.hid (HVD.out.gr hc10)
  clear hc10
  dsimp only
  refine hK.out _ _ HX10.out (fun _ => ?_)
  clear hK K
  refine wpAnyH_ready (rs := [12]) (by kernel_rfl) (by simp) ?_
  refine AllReadyH.cons rfl (fun K hK => ?_) AllReadyH.nil
  go_simp
  refine (rclass_any A n C z b _ HV10.out).mono ?_
  rintro e w11 ⟨rfl, hc11⟩
  rw [← HM.out]
  have HX11 := Lib.hid (block_stays HX10.out hc11)
  have HC11 := Lib.hid (HC10.out.trans hc11)
  clear hc11
  dsimp only
  refine hK.out _ _ HX11.out (fun _ => ?_)
  clear hK K
  refine wpAnyH_take (i := 13) (oi := ⟨some 46, .binOp .eql /-t-/3 (.tmp 42) (.tmp 45) /-t-/3, _, _, _, some (6, true)⟩) (v := .bool true) rfl (by kernel_rfl) (by kernel_rfl) (by kernel_rfl) (fun _ _ _ h => h) (Or.inl ⟨by rfl, fun w' hS => ?_⟩) HX11.out ?_
  · clear hS; go_simp
  simp only [Act.put, List.setIfInBounds_toArray, List.set_cons_zero, List.set_cons_succ]
  refine wpAnyH_take (i := 14) (oi := ⟨some 47, .pick (.tmp 39) (.tmp 46) (.const (.bool false)), _, _, _, none⟩) (v := .bool true) rfl (by kernel_rfl) (by kernel_rfl) (by kernel_rfl) (fun _ _ _ h => h) (Or.inl ⟨by rfl, fun w' hS => ?_⟩) HX11.out ?_
  · clear hS; go_simp
  simp only [Act.put, List.setIfInBounds_toArray, List.set_cons_zero, List.set_cons_succ]
  refine wpAnyH_take (i := 15) (oi := ⟨some 4, .assign (.tmp 47), _, _, _, none⟩) (v := .bool true) rfl (by kernel_rfl) (by kernel_rfl) (by kernel_rfl) (fun _ _ _ h => h) (Or.inl ⟨by rfl, fun w' hS => ?_⟩) HX11.out ?_
  · clear hS; go_simp
  simp only [Act.put, List.setIfInBounds_toArray, List.set_cons_zero, List.set_cons_succ]
  refine wpAnyH_done (by kernel_rfl) ?_ _
  go_wp2
  go_ret
  exact ⟨rfl, HC11.out⟩
#print axioms blockOpens_any
theorem blockOpens_of (va : Value) (b : Bk) (w : World) {n : Nat} {z : Nat → Nat} (ha : RowV w va n z) (hb : BkIs w b) : Calls Try.prog 4 #[va, .agg (bkC b)] w (Told w) := by
  obtain ⟨A, C, rfl, _⟩ := id ha
  exact blockOpens_any A n C z b w ha
#print axioms blockOpens_of
end Go.Proofs.Ytennkpjmdhidaaa
