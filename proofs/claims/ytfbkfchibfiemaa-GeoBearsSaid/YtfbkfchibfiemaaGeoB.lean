/-
  geo.groupOf and the functions that tell a group's sectors, Bears, Members, walked.
-/
import Derived.Test.YtfbkfchibfiemaaGeoP
import Derived.Test.YtfbkfchibfiemaaIRw
import Derived.Laws.ResultCell
import Derived.Deep.DeepCutAuto
namespace Go.Proofs.Ytfbkfchibfiemaa
open Go.RowKit
set_option linter.unusedVariables false
set_option maxRecDepth 100000

/-! ### a group, as it is handed on -/
def grC (s b : Int) (F : Value) : Array Value := #[.int .i64 s, .int .i64 b, F]
theorem zero_gr (w : World) : (zeroValue 40).run Try.prog w = .ok (.agg (grC 0 0 .nilFunc)) w := by kernel_rfl
theorem size_gr : (Try.prog.info? 40).map (·.size) = some 3 := by kernel_rfl
theorem results_gr (tmps : Array Value) (w : World) (H : Nat) (s b : Int) (F : Value) (hp : tmps.getD 4 undef = .pointer (some ⟨H, 0, none⟩)) (hg : w.heap[H]? = some (.cells (grC s b F) 40 (0, 0))) :
    (results Try.f26 tmps).run Try.prog w = .ok (.agg (grC s b F)) w :=
  results_cell_row Try.results26 _ _ H 40 (grC s b F) (0, 0) _ hp hg Try.underlying40 rfl size_gr
/-- A group's variable, new, with nothing in it. -/
structure GrZ (w w1 : World) (H : Nat) : Prop where
  al : w.alloc (.cells (grC 0 0 .nilFunc) 40) = w1
  sz : w.heap.size = H
  cx : w1.heap[H]? = some (.cells (grC 0 0 .nilFunc) 40 (0, 0))
  ch : Ch (fun _ => False) w w1
theorem grZ (w : World) : ∃ w1 H, GrZ w w1 H := ⟨_, _, rfl, rfl, heap_alloc_new w _, (Ch.refl _ w).alloc _ _⟩
theorem GrZ.at {w1 w2 W : World} {H : Nat} (h : GrZ w1 w2 H) (k : Ch (fun _ => False) w2 W) : W.heap[H]? = some (.cells (grC 0 0 .nilFunc) 40 (0, 0)) := (k.block H (blk_lt h.cx) (fun f => f)).trans h.cx
theorem store_gr {W : World} {H : Nat} {s b s2 b2 : Int} {F F2 : Value} (h : W.heap[H]? = some (.cells (grC s b F) 40 (0, 0))) (hF : F2.oneCell' = true) :
    (storeVar 40 ⟨H, 0, none⟩ (.agg (grC s2 b2 F2))).run Try.prog W = .ok () (W.setRow H (grC s2 b2 F2)) :=
  run_storeVar_row W H _ _ (grC s b F) (grC s2 b2 F2) h size_gr rfl (by unfold grC; simpa [Value.oneCell'] using hF)
/-- What is left of the world behind the last store. -/
theorem done_gr {w W : World} {H : Nat} {s b s2 b2 : Int} {F F2 : Value} (hc : Ch (fun _ => False) w W) (h : W.heap[H]? = some (.cells (grC s b F) 40 (0, 0))) (hl : w.heap.size ≤ H) :
    (W.setRow H (grC s2 b2 F2)).heap[H]? = some (.cells (grC s2 b2 F2) 40 (0, 0)) ∧ Ch (fun _ => False) w (W.setRow H (grC s2 b2 F2)) :=
  ⟨setRow_heap W H (grC s b F) _ _ (0, 0) h, hc.setRow (Or.inr hl) _⟩
set_option maxHeartbeats 1600000 in
set_option maxRecDepth 100000 in
theorem groupOf_none (g : Ge) (i : Int) (h : inG g i = false) (w : World) : Calls Try.prog 26 #[.agg (geC g), .int .i64 i] w (Ans (.agg (grC 0 0 .nilFunc)) w) := by
  obtain ⟨w1, H, hR⟩ := geR w g
  obtain ⟨w2, H2, hZ⟩ := grZ w1
  have HR := Lib.hid hR
  have HZ := Lib.hid hZ
  have HX := Lib.hid (hR.x.gr hZ.ch)
  have hx2 := hR.x.gr hZ.ch
  obtain ⟨x0, x1, x2, x3⟩ := hx2
  have HC2 := Lib.hid (hR.ch.trans hZ.ch)
  have HL := Lib.hid (show w.heap.size ≤ H2 by rw [← hZ.sz]; exact hR.ch.size)
  have h1 := of_decide_eq_false h
  obtain ⟨N, hN⟩ : ∃ N, N = grpG g := ⟨_, rfl⟩
  have HN := Lib.hid hN
  rw [← hN] at h1
  clear hN h hR hZ
  by_cases q : i < 0
  · have t2 : decide (i < 0) = true := decide_eq_true q
    clear h1 q
    have HROW := Lib.hid (HZ.out.at (Ch.refl _ w2))
    go_enter Try.func26, Try.ntmps26
    go_wp2_with (first | ((with_reducible refine wpList_isOp (.box 23 (.tmp 0)) rfl ?_); refine wpList_boxing _ w1 rfl 23 (.tmp 0) rfl (geC g) H rfl (by exact HR.out.sz) (by exact HR.out.al) ?_) | ((with_reducible refine wpList_isOp (.alloc 40) rfl ?_); refine wpList_making _ w2 rfl 40 rfl (grC 0 0 .nilFunc) H2 (zero_gr _) (by exact HZ.out.sz) (by exact HZ.out.al) ?_) | ((with_reducible refine wpList_isOp (.store 40 (.tmp 4) (.tmp 16)) rfl ?_); refine wpList_storing _ _ rfl 40 (.tmp 4) (.tmp 16) rfl (.agg (grC 0 0 .nilFunc)) ⟨H2, 0, none⟩ rfl rfl (store_gr HROW.out rfl) ?_))
    have hd := done_gr (s2 := 0) (b2 := 0) (F2 := .nilFunc) HC2.out HROW.out HL.out
    refine bodyPost_ret (v := .agg (grC 0 0 .nilFunc)) (results_gr _ _ H2 _ _ _ rfl hd.1) rfl ?_
    exact ⟨rfl, hd.2⟩
  · have t2 : decide (i < 0) = false := decide_eq_false q
    have t3 : decide (N ≤ i) = true := decide_eq_true (by omega)
    clear h1 q
    go_enter Try.func26, Try.ntmps26
    go_wp2_with (first | ((with_reducible refine wpList_isOp (.box 23 (.tmp 0)) rfl ?_); refine wpList_boxing _ w1 rfl 23 (.tmp 0) rfl (geC g) H rfl (by exact HR.out.sz) (by exact HR.out.al) ?_) | ((with_reducible refine wpList_isOp (.alloc 40) rfl ?_); refine wpList_making _ w2 rfl 40 rfl (grC 0 0 .nilFunc) H2 (zero_gr _) (by exact HZ.out.sz) (by exact HZ.out.al) ?_) | (go_at_call 17; refine (groups_any g _).mono ?_; rintro e w3 ⟨rfl, hc3⟩; rw [← HN.out]; have HROW := Lib.hid (HZ.out.at hc3)) | ((with_reducible refine wpList_isOp (.store 40 (.tmp 4) (.tmp 16)) rfl ?_); refine wpList_storing _ _ rfl 40 (.tmp 4) (.tmp 16) rfl (.agg (grC 0 0 .nilFunc)) ⟨H2, 0, none⟩ rfl rfl (store_gr HROW.out rfl) ?_))
    have hd := done_gr (s2 := 0) (b2 := 0) (F2 := .nilFunc) (HC2.out.trans hc3) HROW.out HL.out
    refine bodyPost_ret (v := .agg (grC 0 0 .nilFunc)) (results_gr _ _ H2 _ _ _ rfl hd.1) rfl ?_
    exact ⟨rfl, hd.2⟩
#print axioms groupOf_none
set_option maxHeartbeats 1600000 in
set_option maxRecDepth 100000 in
theorem groupOf_copies (n : Gn) (hn : n.Ok) (w : World) : Calls Try.prog 26 #[.agg (geC n.ge), .int .i64 0] w (Ans (.agg (grC 4 3 (.func (.func 28) #[] #[]))) w) := by
  obtain ⟨w1, H, hR⟩ := geR w n.ge
  obtain ⟨w2, H2, hZ⟩ := grZ w1
  have HR := Lib.hid hR
  have HZ := Lib.hid hZ
  have HX := Lib.hid (hR.x.gr hZ.ch)
  have hx2 := hR.x.gr hZ.ch
  obtain ⟨x0, x1, x2, x3⟩ := hx2
  have HC2 := Lib.hid (hR.ch.trans hZ.ch)
  have HL := Lib.hid (show w.heap.size ≤ H2 by rw [← hZ.sz]; exact hR.ch.size)
  have HN := Lib.hid (grpG_ok hn)
  obtain ⟨G, hG⟩ : ∃ G, G = n.grp := ⟨_, rfl⟩
  have HGG := Lib.hid hG
  have t4 : ¬ G = 0 := by rw [hG]; unfold Gn.grp Gn.fg; omega
  clear hG hR hZ hn
  go_enter Try.func26, Try.ntmps26
  go_wp2_with (first | ((with_reducible refine wpList_isOp (.box 23 (.tmp 0)) rfl ?_); refine wpList_boxing _ w1 rfl 23 (.tmp 0) rfl (geC n.ge) H rfl (by exact HR.out.sz) (by exact HR.out.al) ?_) | ((with_reducible refine wpList_isOp (.alloc 40) rfl ?_); refine wpList_making _ w2 rfl 40 rfl (grC 0 0 .nilFunc) H2 (zero_gr _) (by exact HZ.out.sz) (by exact HZ.out.al) ?_) | (go_at_call 17; refine (groups_any n.ge _).mono ?_; rintro e w3 ⟨rfl, hc3⟩; rw [HN.out, ← HGG.out]; have HROW := Lib.hid (HZ.out.at hc3)) | ((with_reducible refine wpList_isOp (.store 40 (.tmp 4) (.tmp 20)) rfl ?_); refine wpList_storing _ _ rfl 40 (.tmp 4) (.tmp 20) rfl (.agg (grC 4 3 (.func (.func 28) #[] #[]))) ⟨H2, 0, none⟩ rfl rfl (store_gr HROW.out rfl) ?_))
  have hd := done_gr (s2 := 4) (b2 := 3) (F2 := (.func (.func 28) #[] #[])) (HC2.out.trans hc3) HROW.out HL.out
  refine bodyPost_ret (v := .agg (grC 4 3 (.func (.func 28) #[] #[]))) (results_gr _ _ H2 _ _ _ rfl hd.1) rfl ?_
  exact ⟨rfl, hd.2⟩
#print axioms groupOf_copies
set_option maxHeartbeats 1600000 in
set_option maxRecDepth 100000 in
theorem groupOf_slot (n : Gn) (hn : n.Ok) (j : Nat) (hj : j < n.grp) (h0 : ¬ j = 0) (h1 : j < n.fg) (w : World) : Calls Try.prog 26 #[.agg (geC n.ge), .int .i64 (j : Int)] w fun e w' => ∃ B D, e = .returned (.agg (grC 2 1 (.func (.func 29) #[] #[.pointer (some ⟨B, 0, none⟩), .pointer (some ⟨D, 0, none⟩)]))) ∧ GeX w' B n.ge ∧ w'.cell? ⟨D, 0, none⟩ = some (.int .i64 ((j : Int) - 1)) ∧ Ch (fun _ => False) w w' := by
  obtain ⟨w1, H, hR⟩ := geR w n.ge
  obtain ⟨w2, H2, hZ⟩ := grZ w1
  have HR := Lib.hid hR
  have HZ := Lib.hid hZ
  have HX := Lib.hid (hR.x.gr hZ.ch)
  have hx2 := hR.x.gr hZ.ch
  obtain ⟨x0, x1, x2, x3⟩ := hx2
  have HC2 := Lib.hid (hR.ch.trans hZ.ch)
  have HL := Lib.hid (show w.heap.size ≤ H2 by rw [← hZ.sz]; exact hR.ch.size)
  have HN := Lib.hid (grpG_ok hn)
  have HK := Lib.hid hn
  obtain ⟨G, hG⟩ : ∃ G, G = n.grp := ⟨_, rfl⟩
  have HGG := Lib.hid hG
  rw [← hG] at hj
  have t2 : decide (G ≤ j) = false := decide_eq_false (by omega)
  have hb : j ≤ 577 := by have := hn.grp2; omega
  have hHH : H ≠ H2 := by have := blk_lt hR.cx; rw [← hZ.sz]; omega
  have hH2 := blk_lt hZ.cx
  have HHH := Lib.hid hHH
  have HH2 := Lib.hid hH2
  have hfb : n.fg ≤ 513 := by have := hn.w2; unfold Gn.fg; omega
  have t3 : ¬ j = 0 := h0
  have t4 : decide (j < 1) = false := decide_eq_false (by omega)
  obtain ⟨fg, hfg⟩ : ∃ fg, fg = n.fg := ⟨_, rfl⟩
  have HFG := Lib.hid hfg
  rw [← hfg] at h1 hfb
  have t5 : decide (j < fg) = true := decide_eq_true h1
  have t6 : ((j : Int) - 1) < 9223372036854775807 := by omega
  have t7 : ¬ (j : Int) < 1 := by omega
  clear hG hR hZ hn hj h0 h1 hfg hHH hH2 t6
  go_enter Try.func26, Try.ntmps26
  go_wp2_with (first | ((with_reducible refine wpList_isOp (.box 23 (.tmp 0)) rfl ?_); refine wpList_boxing _ w1 rfl 23 (.tmp 0) rfl (geC n.ge) H rfl (by exact HR.out.sz) (by exact HR.out.al) ?_) | ((with_reducible refine wpList_isOp (.alloc 40) rfl ?_); refine wpList_making _ w2 rfl 40 rfl (grC 0 0 .nilFunc) H2 (zero_gr _) (by exact HZ.out.sz) (by exact HZ.out.al) ?_) | (go_at_call 17; refine (groups_any n.ge _).mono ?_; rintro e w3 ⟨rfl, hc3⟩; rw [HN.out, ← HGG.out]; have hx3 := HX.out.gr hc3; obtain ⟨y0, y1, y2, y3⟩ := hx3) | (go_at_call 24; refine (firstGroup_any n HK.out _).mono ?_; rintro e w4 ⟨rfl, hc4⟩; rw [← HFG.out]; have hk5 := (hc3.trans hc4).alloc #[.int .i64 ((j : Int) - 1)] /-t-/3; have HROW := Lib.hid (HZ.out.at hk5)) | ((with_reducible refine wpList_isOp (.store 40 (.tmp 4) (.tmp 29)) rfl ?_); refine wpList_storing _ _ rfl 40 (.tmp 4) (.tmp 29) rfl (.agg (grC 2 1 (.func (.func 29) #[] #[.pointer (some ⟨H, 0, none⟩), .pointer (some ⟨w4.heap.size, 0, none⟩)]))) ⟨H2, 0, none⟩ rfl rfl (store_gr HROW.out rfl) ?_))
  have kS := (Ch.refl (fun i => i = H2) (w4.alloc (.cells #[.int .i64 ((j : Int) - 1)] /-t-/3))).setRow (g := H2) (Or.inl rfl) (grC 2 1 (.func (.func 29) #[] #[.pointer (some ⟨H, 0, none⟩), .pointer (some ⟨w4.heap.size, 0, none⟩)]))
  have hcell : (w4.alloc (.cells #[.int .i64 ((j : Int) - 1)] /-t-/3)).cell? ⟨w4.heap.size, 0, none⟩ = some (.int .i64 ((j : Int) - 1)) := by
    rw [blk_cell (heap_alloc_new w4 _)]
    rfl
  have hd := done_gr (s2 := 2) (b2 := 1) (F2 := (.func (.func 29) #[] #[.pointer (some ⟨H, 0, none⟩), .pointer (some ⟨w4.heap.size, 0, none⟩)])) (HC2.out.trans hk5) HROW.out HL.out
  refine bodyPost_ret (v := .agg (grC 2 1 (.func (.func 29) #[] #[.pointer (some ⟨H, 0, none⟩), .pointer (some ⟨w4.heap.size, 0, none⟩)]))) (results_gr _ _ H2 _ _ _ rfl hd.1) rfl ?_
  exact ⟨_, _, rfl, (HX.out.gr hk5).off kS HHH.out, kS.cell hcell (fun e => by have := HH2.out; have := (hc3.trans hc4).size; simp only at e; omega), hd.2⟩
#print axioms groupOf_slot
set_option maxHeartbeats 3200000 in
set_option maxRecDepth 100000 in
theorem groupOf_stripe (n : Gn) (hn : n.Ok) (j : Nat) (hj : j < n.grp) (h1 : ¬ j < n.fg) (w : World) : Calls Try.prog 26 #[.agg (geC n.ge), .int .i64 (j : Int)] w fun e w' => ∃ B D, e = .returned (.agg (grC (n.q : Int) (n.M : Int) (.func (.func 30) #[] #[.pointer (some ⟨B, 0, none⟩), .pointer (some ⟨D, 0, none⟩)]))) ∧ GeX w' B n.ge ∧ w'.cell? ⟨D, 0, none⟩ = some (.int .i64 ((j : Int) - (n.fg : Int))) ∧ Ch (fun _ => False) w w' := by
  obtain ⟨w1, H, hR⟩ := geR w n.ge
  obtain ⟨w2, H2, hZ⟩ := grZ w1
  have HR := Lib.hid hR
  have HZ := Lib.hid hZ
  have HX := Lib.hid (hR.x.gr hZ.ch)
  have hx2 := hR.x.gr hZ.ch
  obtain ⟨x0, x1, x2, x3⟩ := hx2
  have HC2 := Lib.hid (hR.ch.trans hZ.ch)
  have HL := Lib.hid (show w.heap.size ≤ H2 by rw [← hZ.sz]; exact hR.ch.size)
  have HN := Lib.hid (grpG_ok hn)
  have HK := Lib.hid hn
  obtain ⟨G, hG⟩ : ∃ G, G = n.grp := ⟨_, rfl⟩
  have HGG := Lib.hid hG
  rw [← hG] at hj
  have t2 : decide (G ≤ j) = false := decide_eq_false (by omega)
  have hb : j ≤ 577 := by have := hn.grp2; omega
  have hHH : H ≠ H2 := by have := blk_lt hR.cx; rw [← hZ.sz]; omega
  have hH2 := blk_lt hZ.cx
  have HHH := Lib.hid hHH
  have HH2 := Lib.hid hH2
  have hfb : n.fg ≤ 513 := by have := hn.w2; unfold Gn.fg; omega
  have h0 : ¬ j = 0 := fun e => h1 (by rw [e]; unfold Gn.fg; omega)
  have t3 : ¬ j = 0 := h0
  have t4 : decide (j < 1) = false := decide_eq_false (by omega)
  obtain ⟨fg, hfg⟩ : ∃ fg, fg = n.fg := ⟨_, rfl⟩
  have HFG := Lib.hid hfg
  rw [← hfg] at h1 hfb ⊢
  have t5 : decide (j < fg) = false := decide_eq_false h1
  have t7 : ¬ (j : Int) < 1 := by omega
  have HM := Lib.hid (show n.ge.m = (n.M : Int) from rfl)
  clear hG hR hZ hn hj h0 h1 hfg hHH hH2
  go_enter Try.func26, Try.ntmps26
  go_upto_region 8 with (first | ((with_reducible refine wpList_isOp (.box 23 (.tmp 0)) rfl ?_); refine wpList_boxing _ w1 rfl 23 (.tmp 0) rfl (geC n.ge) H rfl (by exact HR.out.sz) (by exact HR.out.al) ?_) | ((with_reducible refine wpList_isOp (.alloc 40) rfl ?_); refine wpList_making _ w2 rfl 40 rfl (grC 0 0 .nilFunc) H2 (zero_gr _) (by exact HZ.out.sz) (by exact HZ.out.al) ?_) | (go_at_call 17; refine (groups_any n.ge _).mono ?_; rintro e w3 ⟨rfl, hc3⟩; rw [HN.out, ← HGG.out]; have hx3 := HX.out.gr hc3; obtain ⟨y0, y1, y2, y3⟩ := hx3) | (go_at_call 24; refine (firstGroup_any n HK.out _).mono ?_; rintro e w4 ⟨rfl, hc4⟩; rw [← HFG.out]; have hx4 := (GeX.mk y0 y1 y2 y3).gr hc4; obtain ⟨y0, y1, y2, y3⟩ := hx4))
  have hkc := (hc3.trans hc4)
  clear hc3 hc4
  go_wp2_with (go_at_call 24; refine (firstGroup_any n HK.out _).mono ?_; rintro e w4 ⟨rfl, hc4⟩; rw [← HFG.out]; have hx4 := (GeX.mk y0 y1 y2 y3).gr hc4; obtain ⟨y0, y1, y2, y3⟩ := hx4)
  have hk5 := (hkc.trans hc4).alloc #[.int .i64 ((j : Int) - (fg : Int))] /-t-/3
  have HROW := Lib.hid (HZ.out.at hk5)
  have HX5 := Lib.hid (HX.out.gr hk5)
  have hcell : (w4.alloc (.cells #[.int .i64 ((j : Int) - (fg : Int))] /-t-/3)).cell? ⟨w4.heap.size, 0, none⟩ = some (.int .i64 ((j : Int) - (fg : Int))) := by
    rw [blk_cell (heap_alloc_new w4 _)]
    rfl
  have HDC := Lib.hid hcell
  have HDL := Lib.hid (show w4.heap.size < (w4.alloc (.cells #[.int .i64 ((j : Int) - (fg : Int))] /-t-/3)).heap.size by simp)
  have HDH := Lib.hid (show w4.heap.size ≠ H2 by have := HH2.out; have := (hkc.trans hc4).size; omega)
  have HK5 := Lib.hid hk5
  obtain ⟨D, hD⟩ : ∃ D, D = w4.heap.size := ⟨_, rfl⟩
  obtain ⟨w5, hw5⟩ : ∃ w5, w5 = w4.alloc (.cells #[.int .i64 ((j : Int) - (fg : Int))] /-t-/3) := ⟨_, rfl⟩
  rw [← hw5] at HROW HX5 HDC HDL HK5 ⊢
  rw [← hD] at HDC HDL HDH ⊢
  have HWD : Hid (∃ wd, wd = w5.drew) := Lib.hid ⟨_, rfl⟩
  obtain ⟨wd, hwd⟩ := HWD.out
  have hcd : Ch (fun _ => False) w5 wd := by rw [hwd]; exact (Ch.refl _ w5).drew
  have HXD := Lib.hid (HX5.out.gr hcd)
  have HROWD := Lib.hid ((hcd.block H2 (blk_lt HROW.out) (fun f => f)).trans HROW.out)
  have HDCD := Lib.hid (hcd.cell HDC.out (fun f => f))
  have HKD := Lib.hid (HC2.out.trans (HK5.out.trans hcd))
  clear hw5 hD hk5 hcell y0 y1 y2 y3 hkc hc4 hcd HWD x0 x1 x2 x3
  refine wp_region_held (S := fun W' => GeX W' H n.ge) (by kernel_rfl) ?_
  change wpAnyH _ _ _ _ _ _ _ _ (World.drew _)
  rw [← hwd]
  clear hwd
  have HS : (fun W' : World => GeX W' H n.ge) wd := HXD.out
  refine wpAnyH_take (i := 0) (oi := ⟨some 34, .load 23 (.tmp 2), _, _, _, none⟩) (v := .agg (geC n.ge)) rfl (by kernel_rfl) (by kernel_rfl) (by kernel_rfl) (fun _ _ _ h => h) (Or.inl ⟨by rfl, fun w' hS => ?_⟩) HS ?_
  · obtain ⟨s0, s1, s2, s3⟩ := hS
    go_simp
    rfl
  simp only [Act.put, List.setIfInBounds_toArray, List.set_cons_zero, List.set_cons_succ]
  refine wpAnyH_take (i := 2) (oi := ⟨some 36, .fieldAddr 23 (.tmp 2) 3, _, _, _, none⟩) (v := .pointer (some ⟨H, 3, none⟩)) rfl (by kernel_rfl) (by kernel_rfl) (by kernel_rfl) (fun _ _ _ h => h) (Or.inl ⟨by rfl, fun w' hS => ?_⟩) HS ?_
  · clear hS; go_simp
  simp only [Act.put, List.setIfInBounds_toArray, List.set_cons_zero, List.set_cons_succ]
  refine wpAnyH_take (i := 3) (oi := ⟨some 37, .load /-t-/3 (.tmp 36), _, _, _, none⟩) (v := .int .i64 (n.M : Int)) rfl (by kernel_rfl) (by kernel_rfl) (by kernel_rfl) (fun _ _ _ h => h) (Or.inl ⟨by rfl, fun w' hS => ?_⟩) HS ?_
  · obtain ⟨s0, s1, s2, s3⟩ := hS
    rw [HM.out] at s3
    go_simp
  simp only [Act.put, List.setIfInBounds_toArray, List.set_cons_zero, List.set_cons_succ]
  refine wpAnyH_take (i := 4) (oi := ⟨some 38, .makeFunc (Fn.func 30) #[] #[.tmp 2, .tmp 6], _, _, _, none⟩) (v := (.func (.func 30) #[] #[.pointer (some ⟨H, 0, none⟩), .pointer (some ⟨D, 0, none⟩)])) rfl (by kernel_rfl) (by kernel_rfl) (by kernel_rfl) (fun _ _ _ h => h) (Or.inl ⟨by rfl, fun w' hS => ?_⟩) HS ?_
  · clear hS; go_simp
  simp only [Act.put, List.setIfInBounds_toArray, List.set_cons_zero, List.set_cons_succ]
  refine wpAnyH_ready (rs := [1]) (by kernel_rfl) (by simp) ?_
  refine AllReadyH.cons rfl (fun K hK => ?_) AllReadyH.nil
  go_simp
  refine (shares_any n HK.out _).mono ?_
  rintro e w6 ⟨rfl, hc6⟩
  have HX6 := Lib.hid (HXD.out.gr hc6)
  have HROW6 := Lib.hid ((hc6.block H2 (blk_lt HROWD.out) (fun f => f)).trans HROWD.out)
  have HDC6 := Lib.hid (hc6.cell HDCD.out (fun f => f))
  have HK6 := Lib.hid (HKD.out.trans hc6)
  clear hc6
  dsimp only
  refine hK.out _ _ HX6.out (fun _ => ?_)
  clear hK K
  refine wpAnyH_take (i := 5) (oi := ⟨some 39, .build 40 #[(0, .tmp 35), (1, .tmp 37), (2, .tmp 38)], _, _, _, none⟩) (v := .agg (grC (n.q : Int) (n.M : Int) (.func (.func 30) #[] #[.pointer (some ⟨H, 0, none⟩), .pointer (some ⟨D, 0, none⟩)]))) rfl (by kernel_rfl) (by kernel_rfl) (by kernel_rfl) (fun _ _ _ h => h) (Or.inl ⟨by rfl, fun w' hS => ?_⟩) HX6.out ?_
  · clear hS
    go_simp
    rfl
  simp only [Act.put, List.setIfInBounds_toArray, List.set_cons_zero, List.set_cons_succ]
  refine wpAnyH_ready (rs := [6]) (by kernel_rfl) (by simp) ?_
  refine AllReadyH.cons rfl (fun K hK => ?_) AllReadyH.nil
  refine step_storing (o := ⟨none, .store 40 (.tmp 4) (.tmp 39), _, _, _, none⟩) _ rfl 40 (.tmp 4) (.tmp 39) rfl (.agg (grC (n.q : Int) (n.M : Int) (.func (.func 30) #[] #[.pointer (some ⟨H, 0, none⟩), .pointer (some ⟨D, 0, none⟩)]))) ⟨H2, 0, none⟩ rfl rfl (store_gr HROW6.out rfl) ?_
  have kS := (Ch.refl (fun i => i = H2) w6).setRow (g := H2) (Or.inl rfl) (grC (n.q : Int) (n.M : Int) (.func (.func 30) #[] #[.pointer (some ⟨H, 0, none⟩), .pointer (some ⟨D, 0, none⟩)]))
  have HXE := Lib.hid (HX6.out.off kS HHH.out)
  have hd := done_gr (s2 := (n.q : Int)) (b2 := (n.M : Int)) (F2 := (.func (.func 30) #[] #[.pointer (some ⟨H, 0, none⟩), .pointer (some ⟨D, 0, none⟩)])) HK6.out HROW6.out HL.out
  have HDE := Lib.hid (kS.cell HDC6.out HDH.out)
  refine hK.out _ _ HXE.out (fun _ => ?_)
  clear hK K
  refine wpAnyH_done (by kernel_rfl) ?_ _
  go_wp2
  refine bodyPost_ret (v := .agg (grC (n.q : Int) (n.M : Int) (.func (.func 30) #[] #[.pointer (some ⟨H, 0, none⟩), .pointer (some ⟨D, 0, none⟩)]))) (results_gr _ _ H2 _ _ _ rfl hd.1) rfl ?_
  exact ⟨_, _, rfl, HXE.out, HDE.out, hd.2⟩
#print axioms groupOf_stripe
end Go.Proofs.Ytfbkfchibfiemaa
