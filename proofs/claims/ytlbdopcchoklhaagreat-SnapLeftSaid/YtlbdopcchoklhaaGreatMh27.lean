/-
  (*disk.Disk).Fault, walked.
-/
import Derived.Test.YtlbdopcchoklhaaGreatMh26
import Derived.Deep.RegionWith
namespace Go.Proofs.YtlbdopcchoklhaaGreat
open Go.RowKit
set_option linter.unusedVariables false
set_option maxRecDepth 100000

set_option maxHeartbeats 800000 in
set_option maxRecDepth 100000 in
theorem fault_none (base : Nat) (p : Ph) (d : Dev) (f : Fa) (w : World) (h : DevIs base w p d) (hp : hasB d f.pl = false) :
    Calls Tryz.prog 21 #[.pointer (some ⟨p.B, 0, none⟩), .agg (faC f)] w (DPost base p d d (.int .i64 3) w) := by
  obtain ⟨w1, H, hR⟩ := faR w f
  have h1 : DevIs base w1 p d := h.gr hR.ch
  have x1 : w1.cell? ⟨H, 1, none⟩ = some (.int .i64 f.pl) := hR.at 1
  have HH := Lib.hid (dhas_any base p d f.pl w1 h1)
  rw [hp] at HH
  have HR := Lib.hid hR
  have HP := Lib.hid (DPost.turned (base := base) (r := .int .i64 3) h1 rfl (hR.ch.mono fun _ _ f => f.elim) (w := w))
  clear hR h h1 hp
  go_enter Tryz.func21, Tryz.ntmps21
  go_wp2_with (first
    | ((with_reducible refine wpList_same ?_); refine wpList_boxing _ w1 rfl 45 (.tmp 1) rfl (faC f) H rfl (by exact HR.out.sz) (by exact HR.out.al) ?_)
    | (go_at_call 50; refine HH.out.mono ?_; rintro e w2 ⟨rfl, rfl⟩))
  go_ret
  exact HP.out
theorem step_looking {P : Program} {ops : Array Oper} {o : Oper} {a : Act} {w : World} {K : Act → World → Prop} {Q : Exit → Act → World → Prop} {E : Prop} (hg : o.guard = none) (t : TypeId) (x ix : Operand) (c : Bool) (ho : o.op = .lookup t x ix c) (xv iv v : Value) (hx : a.eval x = xv) (hi : a.eval ix = iv)
    (hr : (Instr.lookup t xv iv c).run P w = .ok v w) (hK : K (a.put o.dst v) w) : if Region.wanted o (yielded ops a.tmps) = true then Oper.wp P o a w K Q else E := by
  have hw : Region.wanted o (yielded ops a.tmps) = true := by simp [Region.wanted, hg]
  rw [if_pos hw]
  unfold Oper.wp
  simp only [execOp, ho, hx, hi, Sem.run_bind, Sem.run_pure, Result.andThen_ok, hr]
  exact hK
theorem DPost.since {base : Nat} {p : Ph} {d d' : Dev} {r : Value} {w w2 w' : World} {e : Ending} (h : DPost base p d d' r w2 e w') (k : Ch (fun _ => False) w w2) : DPost base p d d' r w e w' := by
  obtain ⟨h1, p', h2, h3, h4, h5⟩ := h
  refine ⟨h1, p', h2, h3, fun i hi => ?_, (k.mono fun _ _ f => f.elim).trans h5⟩
  rcases h4 i hi with q | q
  · exact Or.inl q
  · exact Or.inr (Nat.le_trans k.size q)
theorem load_fa {w : World} {H : Nat} {f : Fa} (h : w.heap[H]? = some (.cells (faC f) 45 (0, 0))) : (loadVar 45 ⟨H, 0, none⟩).run Tryz.prog w = .ok (.agg (faC f)) w :=
  run_loadVar_row w H _ _ (faC f) (0, 0) _ h Tryz.underlying45 rfl (show _ = some 9 by kernel_rfl)
theorem find_none {k : Int} (hk : ¬ (1 ≤ k ∧ k ≤ 5)) : Instr.findNow (.int .i64) (.int .i64 k) fmap.toList 0 = some none := by
  have h1 : (k == 1) = false := by simp; omega
  have h2 : (k == 2) = false := by simp; omega
  have h3 : (k == 3) = false := by simp; omega
  have h4 : (k == 4) = false := by simp; omega
  have h5 : (k == 5) = false := by simp; omega
  simp only [fmap, ent, Instr.findNow, Instr.sameNow, ↓reduceIte, h1, h2, h3, h4, h5]
set_option maxHeartbeats 1600000 in
set_option maxRecDepth 100000 in
theorem fault_arg (base : Nat) (p : Ph) (d : Dev) (f : Fa) (w : World) (h : DevIs base w p d) (hp : hasB d f.pl = true) (hk : ¬ (1 ≤ f.kind ∧ f.kind ≤ 5)) :
    Calls Tryz.prog 21 #[.pointer (some ⟨p.B, 0, none⟩), .agg (faC f)] w (DPost base p d d (.int .i64 1) w) := by
  obtain ⟨w1, H, hR⟩ := faR w f
  have h1 : DevIs base w1 p d := h.gr hR.ch
  have x1 : w1.cell? ⟨H, 1, none⟩ = some (.int .i64 f.pl) := hR.at 1
  have x0 : w1.cell? ⟨H, 0, none⟩ = some (.int .i64 f.kind) := hR.at 0
  have HH := Lib.hid (dhas_any base p d f.pl w1 h1)
  rw [hp] at HH
  have HR := Lib.hid hR
  have HP := Lib.hid h1
  have HFN := Lib.hid (find_none hk)
  clear hR h h1 hp hk
  go_enter Tryz.func21, Tryz.ntmps21
  go_wp2_with (first
    | ((with_reducible refine wpList_same ?_); refine wpList_boxing _ w1 rfl 45 (.tmp 1) rfl (faC f) H rfl (by exact HR.out.sz) (by exact HR.out.al) ?_)
    | (go_at_call 50; refine HH.out.mono ?_; rintro e w2 ⟨rfl, rfl⟩))
  refine wp_region_held (S := fun W' => W'.cell? ⟨H, 0, none⟩ = some (.int .i64 f.kind)) (by kernel_rfl) ?_
  change wpAnyH _ _ _ _ _ _ _ _ (World.drew _)
  have HS : (fun W' : World => W'.cell? ⟨H, 0, none⟩ = some (.int .i64 f.kind)) w1.drew := x0
  refine wpAnyH_take (i := 1) (v := .pointer (some ⟨H, 0, none⟩)) rfl (by kernel_rfl) (by kernel_rfl) (by kernel_rfl) (fun _ _ _ h => h) (Or.inl ⟨by rfl, fun w' hS => ?_⟩) HS ?_
  · clear hS; go_simp
  refine wpAnyH_take (i := 2) (v := .int .i64 f.kind) rfl (by kernel_rfl) (by kernel_rfl) (by kernel_rfl) (fun _ _ _ h => h) (Or.inl ⟨by rfl, fun w' hS => ?_⟩) HS ?_
  · dsimp only at hS; go_simp
  refine wpAnyH_ready (rs := [0]) (by kernel_rfl) (by simp) ?_
  refine AllReadyH.cons rfl (fun K hK => ?_) AllReadyH.nil
  go_simp
  refine (faults_any _).mono ?_
  rintro e w2 ⟨rfl, hw2⟩
  have hm2 : w2.heap[w1.drew.heap.size]? = some (.map fmap 5) := by rw [hw2]; exact heap_alloc_new _ _
  have hc2 : Ch (fun _ => False) w1 w2 := by rw [hw2]; exact (Ch.refl _ w1).drew.allocO _
  have x2 : w2.cell? ⟨H, 0, none⟩ = some (.int .i64 f.kind) := hc2.cell x0 (fun f => f)
  have HC2 := Lib.hid hc2
  obtain ⟨H2, hH2⟩ : ∃ H2, H2 = w1.drew.heap.size := ⟨_, rfl⟩
  rw [← hH2] at hm2 ⊢
  have HLK := Lib.hid (look_map w2 H2 f.kind hm2 Value.nilFunc false (by rw [HFN.out]) (by rw [HFN.out]; rfl))
  clear hw2 hm2 hc2 hH2
  dsimp only
  refine hK.out _ _ x2 (fun _ => ?_)
  clear hK K
  refine wpAnyH_ready (rs := [3]) (by kernel_rfl) (by simp) ?_
  refine AllReadyH.cons rfl (fun K hK => ?_) AllReadyH.nil
  refine step_looking rfl 85 (.tmp 13) (.tmp 15) true rfl (.map (some H2)) (.int .i64 f.kind) _ rfl rfl HLK.out ?_
  refine hK.out _ _ x2 (fun _ => ?_)
  clear hK K
  refine wpAnyH_ready (rs := [4]) (by kernel_rfl) (by simp) ?_
  refine AllReadyH.cons rfl (fun K hK => ?_) AllReadyH.nil
  go_simp
  refine hK.out _ _ x2 (fun _ => ?_)
  clear hK K
  refine wpAnyH_take (i := 5) (v := Value.nilFunc) rfl (by kernel_rfl) (by kernel_rfl) (by kernel_rfl) (fun _ _ _ h => h) (Or.inl ⟨by rfl, fun w' hS => ?_⟩) x2 ?_
  · clear hS; go_simp
  refine wpAnyH_take (i := 6) (v := .bool false) rfl (by kernel_rfl) (by kernel_rfl) (by kernel_rfl) (fun _ _ _ h => h) (Or.inl ⟨by rfl, fun w' hS => ?_⟩) x2 ?_
  · clear hS; go_simp
  change wpAnyH Tryz.prog .any _ _ _ 2 #[true, true, true, true, true, true, true, false, false] _ w2
  simp only [Act.put, List.setIfInBounds_toArray]
  refine wpAnyH_ready (rs := [7]) (by kernel_rfl) (by simp) ?_
  refine AllReadyH.cons rfl (fun K hK => ?_) AllReadyH.nil
  go_simp
  refine hK.out _ _ x2 (fun _ => ?_)
  clear hK K
  refine wpAnyH_ready (rs := [8]) (by kernel_rfl) (by simp) ?_
  refine AllReadyH.cons rfl (fun K hK => ?_) AllReadyH.nil
  go_simp
  refine hK.out _ _ x2 (fun _ => ?_)
  clear hK K
  refine wpAnyH_done (by kernel_rfl) ?_ _
  go_wp2
  go_ret
  exact DPost.turned (HP.out.gr HC2.out) rfl ((HR.out.ch.trans HC2.out).mono fun _ _ f => f.elim)
set_option maxHeartbeats 1600000 in
set_option maxRecDepth 100000 in
theorem fault_rot (base : Nat) (p : Ph) (d d' : Dev) (r : Value) (f : Fa) (w : World) (h : DevIs base w p d) (hp : hasB d f.pl = true) (hk : f.kind = 1)
    (hF : ∀ w', DevIs base w' p d → Calls Tryz.prog 89 #[.pointer (some ⟨p.B, 0, none⟩), .agg (faC f)] w' (DPost base p d d' r w')) :
    Calls Tryz.prog 21 #[.pointer (some ⟨p.B, 0, none⟩), .agg (faC f)] w (DPost base p d d' r w) := by
  obtain ⟨w1, H, hR⟩ := faR w f
  have h1 : DevIs base w1 p d := h.gr hR.ch
  have x1 : w1.cell? ⟨H, 1, none⟩ = some (.int .i64 f.pl) := hR.at 1
  have x0 : w1.cell? ⟨H, 0, none⟩ = some (.int .i64 f.kind) := hR.at 0
  have HH := Lib.hid (dhas_any base p d f.pl w1 h1)
  rw [hp] at HH
  have HR := Lib.hid hR
  have HP := Lib.hid h1
  have HKI := Lib.hid hk
  have HF := Lib.hid hF
  clear hR h h1 hp hk hF
  go_enter Tryz.func21, Tryz.ntmps21
  go_wp2_with (first
    | ((with_reducible refine wpList_same ?_); refine wpList_boxing _ w1 rfl 45 (.tmp 1) rfl (faC f) H rfl (by exact HR.out.sz) (by exact HR.out.al) ?_)
    | (go_at_call 50; refine HH.out.mono ?_; rintro e w2 ⟨rfl, rfl⟩))
  refine wp_region_held (S := fun W' => W'.cell? ⟨H, 0, none⟩ = some (.int .i64 f.kind)) (by kernel_rfl) ?_
  change wpAnyH _ _ _ _ _ _ _ _ (World.drew _)
  have HS : (fun W' : World => W'.cell? ⟨H, 0, none⟩ = some (.int .i64 f.kind)) w1.drew := x0
  refine wpAnyH_take (i := 1) (v := .pointer (some ⟨H, 0, none⟩)) rfl (by kernel_rfl) (by kernel_rfl) (by kernel_rfl) (fun _ _ _ h => h) (Or.inl ⟨by rfl, fun w' hS => ?_⟩) HS ?_
  · clear hS; go_simp
  refine wpAnyH_take (i := 2) (v := .int .i64 f.kind) rfl (by kernel_rfl) (by kernel_rfl) (by kernel_rfl) (fun _ _ _ h => h) (Or.inl ⟨by rfl, fun w' hS => ?_⟩) HS ?_
  · dsimp only at hS; go_simp
  refine wpAnyH_ready (rs := [0]) (by kernel_rfl) (by simp) ?_
  refine AllReadyH.cons rfl (fun K hK => ?_) AllReadyH.nil
  go_simp
  refine (faults_any _).mono ?_
  rintro e w2 ⟨rfl, hw2⟩
  have hm2 : w2.heap[w1.drew.heap.size]? = some (.map fmap 5) := by rw [hw2]; exact heap_alloc_new _ _
  have hc2 : Ch (fun _ => False) w1 w2 := by rw [hw2]; exact (Ch.refl _ w1).drew.allocO _
  have x2 : w2.cell? ⟨H, 0, none⟩ = some (.int .i64 f.kind) := hc2.cell x0 (fun f => f)
  have HC2 := Lib.hid hc2
  obtain ⟨H2, hH2⟩ : ∃ H2, H2 = w1.drew.heap.size := ⟨_, rfl⟩
  rw [← hH2] at hm2 ⊢
  have HLK := Lib.hid (look_map w2 H2 f.kind hm2 (.func (.func 89) #[] #[]) true (by rw [HKI.out]; rfl) (by rw [HKI.out]; rfl))
  clear hw2 hm2 hc2 hH2
  dsimp only
  refine hK.out _ _ x2 (fun _ => ?_)
  clear hK K
  refine wpAnyH_ready (rs := [3]) (by kernel_rfl) (by simp) ?_
  refine AllReadyH.cons rfl (fun K hK => ?_) AllReadyH.nil
  refine step_looking rfl 85 (.tmp 13) (.tmp 15) true rfl (.map (some H2)) (.int .i64 f.kind) _ rfl rfl HLK.out ?_
  refine hK.out _ _ x2 (fun _ => ?_)
  clear hK K
  refine wpAnyH_ready (rs := [4]) (by kernel_rfl) (by simp) ?_
  refine AllReadyH.cons rfl (fun K hK => ?_) AllReadyH.nil
  go_simp
  refine hK.out _ _ x2 (fun _ => ?_)
  clear hK K
  refine wpAnyH_take (i := 5) (v := (.func (.func 89) #[] #[])) rfl (by kernel_rfl) (by kernel_rfl) (by kernel_rfl) (fun _ _ _ h => h) (Or.inl ⟨by rfl, fun w' hS => ?_⟩) x2 ?_
  · clear hS; go_simp
  refine wpAnyH_take (i := 6) (v := .bool true) rfl (by kernel_rfl) (by kernel_rfl) (by kernel_rfl) (fun _ _ _ h => h) (Or.inl ⟨by rfl, fun w' hS => ?_⟩) x2 ?_
  · clear hS; go_simp
  change wpAnyH Tryz.prog .any _ _ _ 2 #[true, true, true, true, true, true, true, false, false] _ w2
  simp only [Act.put, List.setIfInBounds_toArray]
  refine wpAnyH_ready (rs := [7]) (by kernel_rfl) (by simp) ?_
  refine AllReadyH.cons rfl (fun K hK => ?_) AllReadyH.nil
  go_simp
  refine hK.out _ _ x2 (fun _ => ?_)
  clear hK K
  refine wpAnyH_ready (rs := [8]) (by kernel_rfl) (by simp) ?_
  refine AllReadyH.cons rfl (fun K hK => ?_) AllReadyH.nil
  go_simp
  refine hK.out _ _ x2 (fun _ => ?_)
  clear hK K
  refine wpAnyH_done (by kernel_rfl) ?_ _
  have HL2 := Lib.hid (load_fa (show w2.heap[H]? = some (.cells (faC f) 45 (0, 0)) from (HC2.out.block H (blk_lt HR.out.cx) (fun f => f)).trans HR.out.cx))
  have HF2 := Lib.hid (HF.out w2 (HP.out.gr HC2.out))
  go_wp2_with (first
    | ((with_reducible refine wpList_same ?_); refine wpList_loading _ rfl 45 (.tmp 3) rfl (.agg (faC f)) ⟨H, 0, none⟩ rfl (by exact HL2.out) ?_)
    | (go_at_call 89; refine HF2.out.mono ?_; rintro e w3 ⟨rfl, hp3⟩))
  go_ret
  exact DPost.since ⟨rfl, hp3⟩ (HR.out.ch.trans HC2.out)
set_option maxHeartbeats 1600000 in
set_option maxRecDepth 100000 in
theorem fault_blank (base : Nat) (p : Ph) (d d' : Dev) (r : Value) (f : Fa) (w : World) (h : DevIs base w p d) (hp : hasB d f.pl = true) (hk : f.kind = 2)
    (hF : ∀ w', DevIs base w' p d → Calls Tryz.prog 90 #[.pointer (some ⟨p.B, 0, none⟩), .agg (faC f)] w' (DPost base p d d' r w')) :
    Calls Tryz.prog 21 #[.pointer (some ⟨p.B, 0, none⟩), .agg (faC f)] w (DPost base p d d' r w) := by
  obtain ⟨w1, H, hR⟩ := faR w f
  have h1 : DevIs base w1 p d := h.gr hR.ch
  have x1 : w1.cell? ⟨H, 1, none⟩ = some (.int .i64 f.pl) := hR.at 1
  have x0 : w1.cell? ⟨H, 0, none⟩ = some (.int .i64 f.kind) := hR.at 0
  have HH := Lib.hid (dhas_any base p d f.pl w1 h1)
  rw [hp] at HH
  have HR := Lib.hid hR
  have HP := Lib.hid h1
  have HKI := Lib.hid hk
  have HF := Lib.hid hF
  clear hR h h1 hp hk hF
  go_enter Tryz.func21, Tryz.ntmps21
  go_wp2_with (first
    | ((with_reducible refine wpList_same ?_); refine wpList_boxing _ w1 rfl 45 (.tmp 1) rfl (faC f) H rfl (by exact HR.out.sz) (by exact HR.out.al) ?_)
    | (go_at_call 50; refine HH.out.mono ?_; rintro e w2 ⟨rfl, rfl⟩))
  refine wp_region_held (S := fun W' => W'.cell? ⟨H, 0, none⟩ = some (.int .i64 f.kind)) (by kernel_rfl) ?_
  change wpAnyH _ _ _ _ _ _ _ _ (World.drew _)
  have HS : (fun W' : World => W'.cell? ⟨H, 0, none⟩ = some (.int .i64 f.kind)) w1.drew := x0
  refine wpAnyH_take (i := 1) (v := .pointer (some ⟨H, 0, none⟩)) rfl (by kernel_rfl) (by kernel_rfl) (by kernel_rfl) (fun _ _ _ h => h) (Or.inl ⟨by rfl, fun w' hS => ?_⟩) HS ?_
  · clear hS; go_simp
  refine wpAnyH_take (i := 2) (v := .int .i64 f.kind) rfl (by kernel_rfl) (by kernel_rfl) (by kernel_rfl) (fun _ _ _ h => h) (Or.inl ⟨by rfl, fun w' hS => ?_⟩) HS ?_
  · dsimp only at hS; go_simp
  refine wpAnyH_ready (rs := [0]) (by kernel_rfl) (by simp) ?_
  refine AllReadyH.cons rfl (fun K hK => ?_) AllReadyH.nil
  go_simp
  refine (faults_any _).mono ?_
  rintro e w2 ⟨rfl, hw2⟩
  have hm2 : w2.heap[w1.drew.heap.size]? = some (.map fmap 5) := by rw [hw2]; exact heap_alloc_new _ _
  have hc2 : Ch (fun _ => False) w1 w2 := by rw [hw2]; exact (Ch.refl _ w1).drew.allocO _
  have x2 : w2.cell? ⟨H, 0, none⟩ = some (.int .i64 f.kind) := hc2.cell x0 (fun f => f)
  have HC2 := Lib.hid hc2
  obtain ⟨H2, hH2⟩ : ∃ H2, H2 = w1.drew.heap.size := ⟨_, rfl⟩
  rw [← hH2] at hm2 ⊢
  have HLK := Lib.hid (look_map w2 H2 f.kind hm2 (.func (.func 90) #[] #[]) true (by rw [HKI.out]; rfl) (by rw [HKI.out]; rfl))
  clear hw2 hm2 hc2 hH2
  dsimp only
  refine hK.out _ _ x2 (fun _ => ?_)
  clear hK K
  refine wpAnyH_ready (rs := [3]) (by kernel_rfl) (by simp) ?_
  refine AllReadyH.cons rfl (fun K hK => ?_) AllReadyH.nil
  refine step_looking rfl 85 (.tmp 13) (.tmp 15) true rfl (.map (some H2)) (.int .i64 f.kind) _ rfl rfl HLK.out ?_
  refine hK.out _ _ x2 (fun _ => ?_)
  clear hK K
  refine wpAnyH_ready (rs := [4]) (by kernel_rfl) (by simp) ?_
  refine AllReadyH.cons rfl (fun K hK => ?_) AllReadyH.nil
  go_simp
  refine hK.out _ _ x2 (fun _ => ?_)
  clear hK K
  refine wpAnyH_take (i := 5) (v := (.func (.func 90) #[] #[])) rfl (by kernel_rfl) (by kernel_rfl) (by kernel_rfl) (fun _ _ _ h => h) (Or.inl ⟨by rfl, fun w' hS => ?_⟩) x2 ?_
  · clear hS; go_simp
  refine wpAnyH_take (i := 6) (v := .bool true) rfl (by kernel_rfl) (by kernel_rfl) (by kernel_rfl) (fun _ _ _ h => h) (Or.inl ⟨by rfl, fun w' hS => ?_⟩) x2 ?_
  · clear hS; go_simp
  change wpAnyH Tryz.prog .any _ _ _ 2 #[true, true, true, true, true, true, true, false, false] _ w2
  simp only [Act.put, List.setIfInBounds_toArray]
  refine wpAnyH_ready (rs := [7]) (by kernel_rfl) (by simp) ?_
  refine AllReadyH.cons rfl (fun K hK => ?_) AllReadyH.nil
  go_simp
  refine hK.out _ _ x2 (fun _ => ?_)
  clear hK K
  refine wpAnyH_ready (rs := [8]) (by kernel_rfl) (by simp) ?_
  refine AllReadyH.cons rfl (fun K hK => ?_) AllReadyH.nil
  go_simp
  refine hK.out _ _ x2 (fun _ => ?_)
  clear hK K
  refine wpAnyH_done (by kernel_rfl) ?_ _
  have HL2 := Lib.hid (load_fa (show w2.heap[H]? = some (.cells (faC f) 45 (0, 0)) from (HC2.out.block H (blk_lt HR.out.cx) (fun f => f)).trans HR.out.cx))
  have HF2 := Lib.hid (HF.out w2 (HP.out.gr HC2.out))
  go_wp2_with (first
    | ((with_reducible refine wpList_same ?_); refine wpList_loading _ rfl 45 (.tmp 3) rfl (.agg (faC f)) ⟨H, 0, none⟩ rfl (by exact HL2.out) ?_)
    | (go_at_call 90; refine HF2.out.mono ?_; rintro e w3 ⟨rfl, hp3⟩))
  go_ret
  exact DPost.since ⟨rfl, hp3⟩ (HR.out.ch.trans HC2.out)
set_option maxHeartbeats 1600000 in
set_option maxRecDepth 100000 in
theorem fault_lose (base : Nat) (p : Ph) (d d' : Dev) (r : Value) (f : Fa) (w : World) (h : DevIs base w p d) (hp : hasB d f.pl = true) (hk : f.kind = 3)
    (hF : ∀ w', DevIs base w' p d → Calls Tryz.prog 91 #[.pointer (some ⟨p.B, 0, none⟩), .agg (faC f)] w' (DPost base p d d' r w')) :
    Calls Tryz.prog 21 #[.pointer (some ⟨p.B, 0, none⟩), .agg (faC f)] w (DPost base p d d' r w) := by
  obtain ⟨w1, H, hR⟩ := faR w f
  have h1 : DevIs base w1 p d := h.gr hR.ch
  have x1 : w1.cell? ⟨H, 1, none⟩ = some (.int .i64 f.pl) := hR.at 1
  have x0 : w1.cell? ⟨H, 0, none⟩ = some (.int .i64 f.kind) := hR.at 0
  have HH := Lib.hid (dhas_any base p d f.pl w1 h1)
  rw [hp] at HH
  have HR := Lib.hid hR
  have HP := Lib.hid h1
  have HKI := Lib.hid hk
  have HF := Lib.hid hF
  clear hR h h1 hp hk hF
  go_enter Tryz.func21, Tryz.ntmps21
  go_wp2_with (first
    | ((with_reducible refine wpList_same ?_); refine wpList_boxing _ w1 rfl 45 (.tmp 1) rfl (faC f) H rfl (by exact HR.out.sz) (by exact HR.out.al) ?_)
    | (go_at_call 50; refine HH.out.mono ?_; rintro e w2 ⟨rfl, rfl⟩))
  refine wp_region_held (S := fun W' => W'.cell? ⟨H, 0, none⟩ = some (.int .i64 f.kind)) (by kernel_rfl) ?_
  change wpAnyH _ _ _ _ _ _ _ _ (World.drew _)
  have HS : (fun W' : World => W'.cell? ⟨H, 0, none⟩ = some (.int .i64 f.kind)) w1.drew := x0
  refine wpAnyH_take (i := 1) (v := .pointer (some ⟨H, 0, none⟩)) rfl (by kernel_rfl) (by kernel_rfl) (by kernel_rfl) (fun _ _ _ h => h) (Or.inl ⟨by rfl, fun w' hS => ?_⟩) HS ?_
  · clear hS; go_simp
  refine wpAnyH_take (i := 2) (v := .int .i64 f.kind) rfl (by kernel_rfl) (by kernel_rfl) (by kernel_rfl) (fun _ _ _ h => h) (Or.inl ⟨by rfl, fun w' hS => ?_⟩) HS ?_
  · dsimp only at hS; go_simp
  refine wpAnyH_ready (rs := [0]) (by kernel_rfl) (by simp) ?_
  refine AllReadyH.cons rfl (fun K hK => ?_) AllReadyH.nil
  go_simp
  refine (faults_any _).mono ?_
  rintro e w2 ⟨rfl, hw2⟩
  have hm2 : w2.heap[w1.drew.heap.size]? = some (.map fmap 5) := by rw [hw2]; exact heap_alloc_new _ _
  have hc2 : Ch (fun _ => False) w1 w2 := by rw [hw2]; exact (Ch.refl _ w1).drew.allocO _
  have x2 : w2.cell? ⟨H, 0, none⟩ = some (.int .i64 f.kind) := hc2.cell x0 (fun f => f)
  have HC2 := Lib.hid hc2
  obtain ⟨H2, hH2⟩ : ∃ H2, H2 = w1.drew.heap.size := ⟨_, rfl⟩
  rw [← hH2] at hm2 ⊢
  have HLK := Lib.hid (look_map w2 H2 f.kind hm2 (.func (.func 91) #[] #[]) true (by rw [HKI.out]; rfl) (by rw [HKI.out]; rfl))
  clear hw2 hm2 hc2 hH2
  dsimp only
  refine hK.out _ _ x2 (fun _ => ?_)
  clear hK K
  refine wpAnyH_ready (rs := [3]) (by kernel_rfl) (by simp) ?_
  refine AllReadyH.cons rfl (fun K hK => ?_) AllReadyH.nil
  refine step_looking rfl 85 (.tmp 13) (.tmp 15) true rfl (.map (some H2)) (.int .i64 f.kind) _ rfl rfl HLK.out ?_
  refine hK.out _ _ x2 (fun _ => ?_)
  clear hK K
  refine wpAnyH_ready (rs := [4]) (by kernel_rfl) (by simp) ?_
  refine AllReadyH.cons rfl (fun K hK => ?_) AllReadyH.nil
  go_simp
  refine hK.out _ _ x2 (fun _ => ?_)
  clear hK K
  refine wpAnyH_take (i := 5) (v := (.func (.func 91) #[] #[])) rfl (by kernel_rfl) (by kernel_rfl) (by kernel_rfl) (fun _ _ _ h => h) (Or.inl ⟨by rfl, fun w' hS => ?_⟩) x2 ?_
  · clear hS; go_simp
  refine wpAnyH_take (i := 6) (v := .bool true) rfl (by kernel_rfl) (by kernel_rfl) (by kernel_rfl) (fun _ _ _ h => h) (Or.inl ⟨by rfl, fun w' hS => ?_⟩) x2 ?_
  · clear hS; go_simp
  change wpAnyH Tryz.prog .any _ _ _ 2 #[true, true, true, true, true, true, true, false, false] _ w2
  simp only [Act.put, List.setIfInBounds_toArray]
  refine wpAnyH_ready (rs := [7]) (by kernel_rfl) (by simp) ?_
  refine AllReadyH.cons rfl (fun K hK => ?_) AllReadyH.nil
  go_simp
  refine hK.out _ _ x2 (fun _ => ?_)
  clear hK K
  refine wpAnyH_ready (rs := [8]) (by kernel_rfl) (by simp) ?_
  refine AllReadyH.cons rfl (fun K hK => ?_) AllReadyH.nil
  go_simp
  refine hK.out _ _ x2 (fun _ => ?_)
  clear hK K
  refine wpAnyH_done (by kernel_rfl) ?_ _
  have HL2 := Lib.hid (load_fa (show w2.heap[H]? = some (.cells (faC f) 45 (0, 0)) from (HC2.out.block H (blk_lt HR.out.cx) (fun f => f)).trans HR.out.cx))
  have HF2 := Lib.hid (HF.out w2 (HP.out.gr HC2.out))
  go_wp2_with (first
    | ((with_reducible refine wpList_same ?_); refine wpList_loading _ rfl 45 (.tmp 3) rfl (.agg (faC f)) ⟨H, 0, none⟩ rfl (by exact HL2.out) ?_)
    | (go_at_call 91; refine HF2.out.mono ?_; rintro e w3 ⟨rfl, hp3⟩))
  go_ret
  exact DPost.since ⟨rfl, hp3⟩ (HR.out.ch.trans HC2.out)
set_option maxHeartbeats 1600000 in
set_option maxRecDepth 100000 in
theorem fault_drop (base : Nat) (p : Ph) (d d' : Dev) (r : Value) (f : Fa) (w : World) (h : DevIs base w p d) (hp : hasB d f.pl = true) (hk : f.kind = 4)
    (hF : ∀ w', DevIs base w' p d → Calls Tryz.prog 92 #[.pointer (some ⟨p.B, 0, none⟩), .agg (faC f)] w' (DPost base p d d' r w')) :
    Calls Tryz.prog 21 #[.pointer (some ⟨p.B, 0, none⟩), .agg (faC f)] w (DPost base p d d' r w) := by
  obtain ⟨w1, H, hR⟩ := faR w f
  have h1 : DevIs base w1 p d := h.gr hR.ch
  have x1 : w1.cell? ⟨H, 1, none⟩ = some (.int .i64 f.pl) := hR.at 1
  have x0 : w1.cell? ⟨H, 0, none⟩ = some (.int .i64 f.kind) := hR.at 0
  have HH := Lib.hid (dhas_any base p d f.pl w1 h1)
  rw [hp] at HH
  have HR := Lib.hid hR
  have HP := Lib.hid h1
  have HKI := Lib.hid hk
  have HF := Lib.hid hF
  clear hR h h1 hp hk hF
  go_enter Tryz.func21, Tryz.ntmps21
  go_wp2_with (first
    | ((with_reducible refine wpList_same ?_); refine wpList_boxing _ w1 rfl 45 (.tmp 1) rfl (faC f) H rfl (by exact HR.out.sz) (by exact HR.out.al) ?_)
    | (go_at_call 50; refine HH.out.mono ?_; rintro e w2 ⟨rfl, rfl⟩))
  refine wp_region_held (S := fun W' => W'.cell? ⟨H, 0, none⟩ = some (.int .i64 f.kind)) (by kernel_rfl) ?_
  change wpAnyH _ _ _ _ _ _ _ _ (World.drew _)
  have HS : (fun W' : World => W'.cell? ⟨H, 0, none⟩ = some (.int .i64 f.kind)) w1.drew := x0
  refine wpAnyH_take (i := 1) (v := .pointer (some ⟨H, 0, none⟩)) rfl (by kernel_rfl) (by kernel_rfl) (by kernel_rfl) (fun _ _ _ h => h) (Or.inl ⟨by rfl, fun w' hS => ?_⟩) HS ?_
  · clear hS; go_simp
  refine wpAnyH_take (i := 2) (v := .int .i64 f.kind) rfl (by kernel_rfl) (by kernel_rfl) (by kernel_rfl) (fun _ _ _ h => h) (Or.inl ⟨by rfl, fun w' hS => ?_⟩) HS ?_
  · dsimp only at hS; go_simp
  refine wpAnyH_ready (rs := [0]) (by kernel_rfl) (by simp) ?_
  refine AllReadyH.cons rfl (fun K hK => ?_) AllReadyH.nil
  go_simp
  refine (faults_any _).mono ?_
  rintro e w2 ⟨rfl, hw2⟩
  have hm2 : w2.heap[w1.drew.heap.size]? = some (.map fmap 5) := by rw [hw2]; exact heap_alloc_new _ _
  have hc2 : Ch (fun _ => False) w1 w2 := by rw [hw2]; exact (Ch.refl _ w1).drew.allocO _
  have x2 : w2.cell? ⟨H, 0, none⟩ = some (.int .i64 f.kind) := hc2.cell x0 (fun f => f)
  have HC2 := Lib.hid hc2
  obtain ⟨H2, hH2⟩ : ∃ H2, H2 = w1.drew.heap.size := ⟨_, rfl⟩
  rw [← hH2] at hm2 ⊢
  have HLK := Lib.hid (look_map w2 H2 f.kind hm2 (.func (.func 92) #[] #[]) true (by rw [HKI.out]; rfl) (by rw [HKI.out]; rfl))
  clear hw2 hm2 hc2 hH2
  dsimp only
  refine hK.out _ _ x2 (fun _ => ?_)
  clear hK K
  refine wpAnyH_ready (rs := [3]) (by kernel_rfl) (by simp) ?_
  refine AllReadyH.cons rfl (fun K hK => ?_) AllReadyH.nil
  refine step_looking rfl 85 (.tmp 13) (.tmp 15) true rfl (.map (some H2)) (.int .i64 f.kind) _ rfl rfl HLK.out ?_
  refine hK.out _ _ x2 (fun _ => ?_)
  clear hK K
  refine wpAnyH_ready (rs := [4]) (by kernel_rfl) (by simp) ?_
  refine AllReadyH.cons rfl (fun K hK => ?_) AllReadyH.nil
  go_simp
  refine hK.out _ _ x2 (fun _ => ?_)
  clear hK K
  refine wpAnyH_take (i := 5) (v := (.func (.func 92) #[] #[])) rfl (by kernel_rfl) (by kernel_rfl) (by kernel_rfl) (fun _ _ _ h => h) (Or.inl ⟨by rfl, fun w' hS => ?_⟩) x2 ?_
  · clear hS; go_simp
  refine wpAnyH_take (i := 6) (v := .bool true) rfl (by kernel_rfl) (by kernel_rfl) (by kernel_rfl) (fun _ _ _ h => h) (Or.inl ⟨by rfl, fun w' hS => ?_⟩) x2 ?_
  · clear hS; go_simp
  change wpAnyH Tryz.prog .any _ _ _ 2 #[true, true, true, true, true, true, true, false, false] _ w2
  simp only [Act.put, List.setIfInBounds_toArray]
  refine wpAnyH_ready (rs := [7]) (by kernel_rfl) (by simp) ?_
  refine AllReadyH.cons rfl (fun K hK => ?_) AllReadyH.nil
  go_simp
  refine hK.out _ _ x2 (fun _ => ?_)
  clear hK K
  refine wpAnyH_ready (rs := [8]) (by kernel_rfl) (by simp) ?_
  refine AllReadyH.cons rfl (fun K hK => ?_) AllReadyH.nil
  go_simp
  refine hK.out _ _ x2 (fun _ => ?_)
  clear hK K
  refine wpAnyH_done (by kernel_rfl) ?_ _
  have HL2 := Lib.hid (load_fa (show w2.heap[H]? = some (.cells (faC f) 45 (0, 0)) from (HC2.out.block H (blk_lt HR.out.cx) (fun f => f)).trans HR.out.cx))
  have HF2 := Lib.hid (HF.out w2 (HP.out.gr HC2.out))
  go_wp2_with (first
    | ((with_reducible refine wpList_same ?_); refine wpList_loading _ rfl 45 (.tmp 3) rfl (.agg (faC f)) ⟨H, 0, none⟩ rfl (by exact HL2.out) ?_)
    | (go_at_call 92; refine HF2.out.mono ?_; rintro e w3 ⟨rfl, hp3⟩))
  go_ret
  exact DPost.since ⟨rfl, hp3⟩ (HR.out.ch.trans HC2.out)
set_option maxHeartbeats 1600000 in
set_option maxRecDepth 100000 in
theorem fault_miss (base : Nat) (p : Ph) (d d' : Dev) (r : Value) (f : Fa) (w : World) (h : DevIs base w p d) (hp : hasB d f.pl = true) (hk : f.kind = 5)
    (hF : ∀ w', DevIs base w' p d → Calls Tryz.prog 93 #[.pointer (some ⟨p.B, 0, none⟩), .agg (faC f)] w' (DPost base p d d' r w')) :
    Calls Tryz.prog 21 #[.pointer (some ⟨p.B, 0, none⟩), .agg (faC f)] w (DPost base p d d' r w) := by
  obtain ⟨w1, H, hR⟩ := faR w f
  have h1 : DevIs base w1 p d := h.gr hR.ch
  have x1 : w1.cell? ⟨H, 1, none⟩ = some (.int .i64 f.pl) := hR.at 1
  have x0 : w1.cell? ⟨H, 0, none⟩ = some (.int .i64 f.kind) := hR.at 0
  have HH := Lib.hid (dhas_any base p d f.pl w1 h1)
  rw [hp] at HH
  have HR := Lib.hid hR
  have HP := Lib.hid h1
  have HKI := Lib.hid hk
  have HF := Lib.hid hF
  clear hR h h1 hp hk hF
  go_enter Tryz.func21, Tryz.ntmps21
  go_wp2_with (first
    | ((with_reducible refine wpList_same ?_); refine wpList_boxing _ w1 rfl 45 (.tmp 1) rfl (faC f) H rfl (by exact HR.out.sz) (by exact HR.out.al) ?_)
    | (go_at_call 50; refine HH.out.mono ?_; rintro e w2 ⟨rfl, rfl⟩))
  refine wp_region_held (S := fun W' => W'.cell? ⟨H, 0, none⟩ = some (.int .i64 f.kind)) (by kernel_rfl) ?_
  change wpAnyH _ _ _ _ _ _ _ _ (World.drew _)
  have HS : (fun W' : World => W'.cell? ⟨H, 0, none⟩ = some (.int .i64 f.kind)) w1.drew := x0
  refine wpAnyH_take (i := 1) (v := .pointer (some ⟨H, 0, none⟩)) rfl (by kernel_rfl) (by kernel_rfl) (by kernel_rfl) (fun _ _ _ h => h) (Or.inl ⟨by rfl, fun w' hS => ?_⟩) HS ?_
  · clear hS; go_simp
  refine wpAnyH_take (i := 2) (v := .int .i64 f.kind) rfl (by kernel_rfl) (by kernel_rfl) (by kernel_rfl) (fun _ _ _ h => h) (Or.inl ⟨by rfl, fun w' hS => ?_⟩) HS ?_
  · dsimp only at hS; go_simp
  refine wpAnyH_ready (rs := [0]) (by kernel_rfl) (by simp) ?_
  refine AllReadyH.cons rfl (fun K hK => ?_) AllReadyH.nil
  go_simp
  refine (faults_any _).mono ?_
  rintro e w2 ⟨rfl, hw2⟩
  have hm2 : w2.heap[w1.drew.heap.size]? = some (.map fmap 5) := by rw [hw2]; exact heap_alloc_new _ _
  have hc2 : Ch (fun _ => False) w1 w2 := by rw [hw2]; exact (Ch.refl _ w1).drew.allocO _
  have x2 : w2.cell? ⟨H, 0, none⟩ = some (.int .i64 f.kind) := hc2.cell x0 (fun f => f)
  have HC2 := Lib.hid hc2
  obtain ⟨H2, hH2⟩ : ∃ H2, H2 = w1.drew.heap.size := ⟨_, rfl⟩
  rw [← hH2] at hm2 ⊢
  have HLK := Lib.hid (look_map w2 H2 f.kind hm2 (.func (.func 93) #[] #[]) true (by rw [HKI.out]; rfl) (by rw [HKI.out]; rfl))
  clear hw2 hm2 hc2 hH2
  dsimp only
  refine hK.out _ _ x2 (fun _ => ?_)
  clear hK K
  refine wpAnyH_ready (rs := [3]) (by kernel_rfl) (by simp) ?_
  refine AllReadyH.cons rfl (fun K hK => ?_) AllReadyH.nil
  refine step_looking rfl 85 (.tmp 13) (.tmp 15) true rfl (.map (some H2)) (.int .i64 f.kind) _ rfl rfl HLK.out ?_
  refine hK.out _ _ x2 (fun _ => ?_)
  clear hK K
  refine wpAnyH_ready (rs := [4]) (by kernel_rfl) (by simp) ?_
  refine AllReadyH.cons rfl (fun K hK => ?_) AllReadyH.nil
  go_simp
  refine hK.out _ _ x2 (fun _ => ?_)
  clear hK K
  refine wpAnyH_take (i := 5) (v := (.func (.func 93) #[] #[])) rfl (by kernel_rfl) (by kernel_rfl) (by kernel_rfl) (fun _ _ _ h => h) (Or.inl ⟨by rfl, fun w' hS => ?_⟩) x2 ?_
  · clear hS; go_simp
  refine wpAnyH_take (i := 6) (v := .bool true) rfl (by kernel_rfl) (by kernel_rfl) (by kernel_rfl) (fun _ _ _ h => h) (Or.inl ⟨by rfl, fun w' hS => ?_⟩) x2 ?_
  · clear hS; go_simp
  change wpAnyH Tryz.prog .any _ _ _ 2 #[true, true, true, true, true, true, true, false, false] _ w2
  simp only [Act.put, List.setIfInBounds_toArray]
  refine wpAnyH_ready (rs := [7]) (by kernel_rfl) (by simp) ?_
  refine AllReadyH.cons rfl (fun K hK => ?_) AllReadyH.nil
  go_simp
  refine hK.out _ _ x2 (fun _ => ?_)
  clear hK K
  refine wpAnyH_ready (rs := [8]) (by kernel_rfl) (by simp) ?_
  refine AllReadyH.cons rfl (fun K hK => ?_) AllReadyH.nil
  go_simp
  refine hK.out _ _ x2 (fun _ => ?_)
  clear hK K
  refine wpAnyH_done (by kernel_rfl) ?_ _
  have HL2 := Lib.hid (load_fa (show w2.heap[H]? = some (.cells (faC f) 45 (0, 0)) from (HC2.out.block H (blk_lt HR.out.cx) (fun f => f)).trans HR.out.cx))
  have HF2 := Lib.hid (HF.out w2 (HP.out.gr HC2.out))
  go_wp2_with (first
    | ((with_reducible refine wpList_same ?_); refine wpList_loading _ rfl 45 (.tmp 3) rfl (.agg (faC f)) ⟨H, 0, none⟩ rfl (by exact HL2.out) ?_)
    | (go_at_call 93; refine HF2.out.mono ?_; rintro e w3 ⟨rfl, hp3⟩))
  go_ret
  exact DPost.since ⟨rfl, hp3⟩ (HR.out.ch.trans HC2.out)
end Go.Proofs.YtlbdopcchoklhaaGreat
