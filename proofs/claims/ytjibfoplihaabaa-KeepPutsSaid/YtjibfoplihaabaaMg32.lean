/-
  The document's own device (quartermasterref06), walked: FaultMiss.
-/
import Derived.Test.YtjibfoplihaabaaMg30
import Derived.Test.YtjibfoplihaabaaMg31
namespace Go.Proofs.Ytjibfoplihaabaa
open Go.RowKit
set_option linter.unusedVariables false
set_option maxRecDepth 100000

/-! ### a copy of what is misled, and one more behind it -/
theorem copy_miss {w : World} {v : Value} {l : List Nat} (h : MissIs w v l) (hl : l.length ≤ 1048576) : ∃ A n C w', (Builtin.append_ #[ 39, 39] 39 #[.slice none 0 0, v]).run Try.prog w = .ok (.slice A n C) w' ∧ MissIs w' (.slice A n C) l ∧ Ch (fun _ => False) w w' ∧ ∀ i, (Value.slice A n C).ownBlock = some i → w.heap.size ≤ i := by
  obtain ⟨i0, hi, hz0, hz1, hz2⟩ := info_parts info_int
  rcases h with ⟨rfl, rfl⟩ | ⟨b, o, cap, c, rfl, hcap, hb, hsz, hmx, hall⟩
  · refine ⟨none, 0, 0, w, ?_, Or.inl ⟨rfl, rfl⟩, Ch.refl _ _, fun i hi => by cases hi⟩
    simp [Builtin.append_, run_underlying under_ints, sizeOf, typeInfo, hi, Builtin.lenOf, Builtin.firstCells]
  · obtain ⟨v', w', hr, h2, h3, _, h5⟩ := run_append_own_at (P := Try.prog) w w.heap.size 39 39 /-t-/3 i0 (.int .i64 0) 1 8 under_ints hi hz0 hz1 hz2 rfl (by decide) (.slice none 0 0) 0 [] (World.ownsRow_nil _ _ _ _) ⟨b, o, none⟩ l.length cap (intsL l) (by rw [intsL_len, Nat.mul_one]) (fun j u hu => by
        obtain ⟨y, hy, rfl⟩ := intsL_get hu
        rw [add_pl, blk_cell hb]
        exact hall j y hy) (fun u hu => by
        unfold intsL at hu
        obtain ⟨x, _, rfl⟩ := List.mem_map.1 hu
        rfl) (by unfold maxLen; omega) (by omega) (Nat.le_refl _)
    rw [Nat.zero_add, List.nil_append] at h2
    have hm := own_miss h2
    obtain ⟨A, n, C, rfl⟩ : ∃ A n C, v' = .slice A n C := by
      rcases hm with ⟨e, _⟩ | ⟨_, _, _, _, e, _⟩
      · exact ⟨_, _, _, e⟩
      · exact ⟨_, _, _, e⟩
    exact ⟨A, n, C, w', hr, hm, (Ch.refl _ w).grown h3 (fun i hi => by cases hi), fun i hi => (own_at h2 hi).1⟩
theorem RefIs.pushM {base : Nat} {F : Nat → Prop} {w0 w : World} {q : Rh} {d : Dev} {k t : Nat} {v : Value} (h : RefIs base F w q d) (hk : k < d.n) (ht : t < d.n) (hv : MissIs w v (d.miss k)) (h0 : base ≤ w0.heap.size) (hF : ∀ i, F i → i < w0.heap.size) (hs : w0.heap.size ≤ w.heap.size) (ho : ∀ i, v.ownBlock = some i → w0.heap.size ≤ i) (hl : (d.miss k).length ≤ 1048576) :
    ∃ A n C w', (Builtin.append_ #[ 39, 39] 39 #[v, .slice (some ⟨w.heap.size, 0, none⟩) 1 1]).run Try.prog (w.alloc (.cells #[.int .i64 (t : Int)] /-t-/3)) = .ok (.slice A n C) w' ∧ RefIs base (FX F w0 w') (w'.setCell ⟨q.Q, k, none⟩ (.slice A n C)) { q with m := up q.m k (.slice A n C) } { d with miss := up d.miss k (d.miss k ++ [t]) }
      ∧ Ch (fun i => w0.heap.size ≤ i) w w' ∧ w'.cell? ⟨q.Q, k, none⟩ = some (q.m k) ∧ w'.frozen? ⟨q.Q, k, none⟩ = false := by
  have k1 : Ch (fun _ => False) w (w.alloc (.cells #[.int .i64 (t : Int)] /-t-/3)) := (Ch.refl _ w).alloc _ _
  have hv1 : MissIs (w.alloc (.cells #[.int .i64 (t : Int)] /-t-/3)) v (d.miss k) := hv.of (fun i hi => by
    obtain ⟨c, hc⟩ := hv.at hi
    exact k1.block i (blk_lt hc) (fun f => f))
  obtain ⟨v', w', hr, hm, hc, hv'⟩ := app_miss (x := t) (C := 1) (ad := ⟨w.heap.size, 0, none⟩) hv1 (by rw [add_pl, alloc_cell]; rfl) hl
  obtain ⟨A, n, C, rfl⟩ : ∃ A n C, v' = .slice A n C := by
    rcases hm with ⟨e, _⟩ | ⟨_, _, _, _, e, _⟩
    · exact ⟨_, _, _, e⟩
    · exact ⟨_, _, _, e⟩
  have kw : Ch (fun i => w0.heap.size ≤ i) w w' := (k1.mono fun _ _ f => f.elim).trans (hc.mono fun i _ hi => ho i hi)
  have h1 : RefIs base F w' q d := h.ch kw (fun i hi q => by have := hF i hi; omega)
  have hg : RefIs base (FX F w0 w') w' q d := h1.grow h0 (Nat.le_trans hs kw.size)
  have hnew : ∀ i, (Value.slice A n C).ownBlock = some i → w0.heap.size ≤ i := fun i hi => by
    rcases hv' i hi with e | e
    · exact ho i e
    · have := k1.size; omega
  refine ⟨A, n, C, w', hr, hg.setQ (a := k) _ _ hm (fun e => ?_) (fun i hi => ?_) (fun x hx => ?_), kw, h1.cellQ hk, h1.mis.frozen k⟩
  · have := hnew _ e
    have := hF _ h.fP
    omega
  · obtain ⟨c, hc⟩ := hm.at hi
    exact Or.inr ⟨hnew i hi, blk_lt hc⟩
  · rcases List.mem_append.1 hx with e | e
    · exact h.mok k hk x e
    · rw [List.mem_singleton.1 e]; exact ht
#print axioms RefIs.pushM
set_option maxHeartbeats 1600000 in
set_option maxRecDepth 100000 in
theorem rfault_miss (base : Nat) (F : Nat → Prop) (q : Rh) (d : Dev) (f : Fa) (w : World) (h : RefIs base F w q d) (hf : FaOk f) (hb : hasB d f.pl = true) (hk : f.kind = 5) (hM : (d.miss f.pl.toNat).length ≤ 1048576) :
    Calls Try.prog 24 #[.pointer (some ⟨q.B, 0, none⟩), .agg (faC f)] w (RPost base F q.B (missD d f) (.int .i64 (missE d f)) w) := by
  obtain ⟨k, hpl, hkn⟩ := in_hasB hb
  obtain ⟨w1, H, hR⟩ := ftR f h
  have c0 : w1.cell? ⟨q.B, 0, none⟩ = some (.slice (some ⟨q.G, 0, none⟩) d.n q.cG) := hR.dev.cellB 0
  have c4 : w1.cell? ⟨q.B, 4, none⟩ = some (.slice (some ⟨q.Q, 0, none⟩) d.n q.cQ) := hR.dev.cellB 4
  have x0 : w1.cell? ⟨H, 0, none⟩ = some (.int .i64 5) := by rw [← hk]; exact hR.at 0
  have x1 : w1.cell? ⟨H, 1, none⟩ = some (.int .i64 (k : Int)) := by rw [← hpl]; exact hR.at 1
  have x4 : w1.cell? ⟨H, 4, none⟩ = some (.int .i64 f.to) := hR.at 4
  have i1 : (0 : Int) ≤ (k : Int) := Int.natCast_nonneg _
  have i2 : (k : Int) < (d.n : Int) := by omega
  have hnn := h.nn
  have HR := Lib.hid hR
  cases hq : hasB d f.to
  · have hS : missE d f = 3 ∧ missD d f = d := by unfold missE missD; rw [hq]; exact ⟨rfl, rfl⟩
    rw [hS.1, hS.2]
    have HP := Lib.hid (hR.same (.int .i64 3))
    have hr := of_decide_eq_false hq
    obtain ⟨B, G, L, P, Q, cG, cL, cP, cQ, V, s, X, m, lf⟩ := q
    clear h hR hf hb hk hM hS hpl hq
    by_cases ha : f.to < 0
    · clear hr
      go_enter Try.func24, Try.ntmps24
      go_wp2_with ((with_reducible refine wpList_same ?_); refine wpList_boxing _ w1 rfl 45 (.tmp 1) rfl (faC f) H rfl (by exact HR.out.sz) (by exact HR.out.al) ?_)
      go_quiet (fail)
      go_wp2
      go_quiet (fail)
      go_wp2
      go_ret
      rw [World.drewN_drewN]
      exact HP.out _
    · have ha2 : (d.n : Int) ≤ f.to := by omega
      clear hr
      go_enter Try.func24, Try.ntmps24
      go_wp2_with ((with_reducible refine wpList_same ?_); refine wpList_boxing _ w1 rfl 45 (.tmp 1) rfl (faC f) H rfl (by exact HR.out.sz) (by exact HR.out.al) ?_)
      go_quiet (fail)
      go_wp2
      go_quiet (fail)
      go_wp2
      go_ret
      rw [World.drewN_drewN]
      exact HP.out _
  · obtain ⟨t, ht, htn⟩ := in_hasB hq
    have hS : missE d f = 0 ∧ missD d f = { d with miss := up d.miss k (d.miss k ++ [t]) } := by unfold missE missD; rw [hq, hpl, ht, Int.toNat_natCast, Int.toNat_natCast]; exact ⟨rfl, rfl⟩
    rw [hS.1, hS.2]
    rw [ht] at x4
    have hMk : (d.miss k).length ≤ 1048576 := by rw [show k = f.pl.toNat by omega]; exact hM
    have j1 : (0 : Int) ≤ (t : Int) := Int.natCast_nonneg _
    have j2 : (t : Int) < (d.n : Int) := by omega
    have HK := Lib.hid hkn
    have HTN := Lib.hid htn
    have HM := Lib.hid hMk
    obtain ⟨B, G, L, P, Q, cG, cL, cP, cQ, V, s, X, m, lf⟩ := q
    clear h hR hf hb hk hM hS hpl hq hkn htn hMk ht
    go_enter Try.func24, Try.ntmps24
    go_wp2_with ((with_reducible refine wpList_same ?_); refine wpList_boxing _ w1 rfl 45 (.tmp 1) rfl (faC f) H rfl (by exact HR.out.sz) (by exact HR.out.al) ?_)
    go_quiet (fail)
    go_wp2
    obtain ⟨wq, hwq⟩ : ∃ wq, wq = w1.drewN nq := ⟨_, rfl⟩
    rw [← hwq]
    have kq : Ch (fun _ => False) w1 wq := by rw [hwq]; exact (Ch.refl _ w1).drewN nq
    have g0 := kq.cell c0 (fun f => f)
    have g1 := kq.cell x1 (fun f => f)
    have g4 := kq.cell x4 (fun f => f)
    have KQ := Lib.hid kq
    clear hwq kq
    go_quiet (fail)
    go_wp2
    obtain ⟨wd, hwd⟩ : ∃ wd, wd = (wq.drewN nq).drew := ⟨_, rfl⟩
    have kd : Ch (fun _ => False) w1 wd := by rw [hwd]; exact (KQ.out.drewN nq).drew
    have hd : RefIs base F wd ⟨B, G, L, P, Q, cG, cL, cP, cQ, V, s, X, m, lf⟩ d := HR.out.dev.gr kd
    have z1 : wd.cell? ⟨B, 4, none⟩ = some (.slice (some ⟨Q, 0, none⟩) d.n cQ) := hd.cellB 4
    have z2 : wd.cell? ⟨H, 1, none⟩ = some (.int .i64 (k : Int)) := kd.cell x1 (fun f => f)
    have z3 : wd.cell? ⟨Q, k, none⟩ = some (m k) := hd.cellQ HK.out
    have z4 : wd.cell? ⟨H, 4, none⟩ = some (.int .i64 (t : Int)) := kd.cell x4 (fun f => f)
    obtain ⟨Ac, nc, Cc, wb, hrc, hmc, hcc, hoc⟩ := copy_miss (hd.ms k HK.out) HM.out
    have hb : RefIs base F wb ⟨B, G, L, P, Q, cG, cL, cP, cQ, V, s, X, m, lf⟩ d := hd.gr hcc
    have y1 := hcc.cell z1 (fun f => f)
    have y2 := hcc.cell z2 (fun f => f)
    have y3 := hcc.cell z3 (fun f => f)
    have y4 := hcc.cell z4 (fun f => f)
    obtain ⟨Am, nm, Cm, em⟩ : ∃ Am nm Cm, m k = .slice Am nm Cm := by
      rcases hd.ms k HK.out with ⟨e, _⟩ | ⟨_, _, _, _, e, _⟩
      · exact ⟨_, _, _, e⟩
      · exact ⟨_, _, _, e⟩
    have hrc' : (Builtin.append_ #[ 39, 39] 39 #[.slice none 0 0, m k]).run Try.prog wd = .ok (.slice Ac nc Cc) wb := hrc
    rw [em] at z3 y3 hrc'
    obtain ⟨we, hwe⟩ : ∃ we, we = wb.drew := ⟨_, rfl⟩
    have ke : Ch (fun _ => False) wb we := by rw [hwe]; exact (Ch.refl _ wb).drew
    have he : RefIs base F we ⟨B, G, L, P, Q, cG, cL, cP, cQ, V, s, X, m, lf⟩ d := hb.gr ke
    have p1 := ke.cell y1 (fun f => f)
    have p2 := ke.cell y2 (fun f => f)
    have p3 := ke.cell y4 (fun f => f)
    have hme : MissIs we (.slice Ac nc Cc) (d.miss k) := hmc.of (fun i hi => by
      obtain ⟨c, hc⟩ := hmc.at hi
      exact ke.block i (blk_lt hc) (fun f => f))
    have hs : w.heap.size ≤ we.heap.size := Nat.le_trans (Nat.le_trans HR.out.ch.size kd.size) (Nat.le_trans hcc.size ke.size)
    have hsd : w1.heap.size = H + 1 := by rw [← HR.out.al, ← HR.out.sz]; simp
    obtain ⟨Av, nv, Cv, w4, hr4, h4, k4, q4, f4⟩ := he.pushM (w0 := w1) HK.out HTN.out hme (Nat.le_trans HR.out.le HR.out.ch.size) (fun i hi => by have := (HR.out.fl i hi).2; have := HR.out.ch.size; omega) (Nat.le_trans kd.size (Nat.le_trans hcc.size ke.size)) (fun i hi => Nat.le_trans kd.size (hoc i hi)) HM.out
    have kws : Ch (fun _ => False) we (we.alloc (.cells #[.int .i64 (t : Int)] /-t-/3)) := (Ch.refl _ we).alloc _ _
    have q1 := kws.cell p1 (fun f => f)
    have q2 := kws.cell p2 (fun f => f)
    have q3 := kws.cell p3 (fun f => f)
    have hBH : ∀ i, F i → ¬ w1.heap.size ≤ i := fun i hi => by have := (HR.out.fl i hi).2; have := HR.out.ch.size; omega
    have r1 := k4.cell p1 (hBH _ he.fB)
    have r2 := k4.cell p2 (show ¬ w1.heap.size ≤ H by omega)
    have r3 := k4.cell p3 (show ¬ w1.heap.size ≤ H by omega)
    have hQH : Q ≠ H := fun e => HR.out.off (e ▸ he.fQ)
    have ks : Ch (fun i => i = Q) w4 (w4.setCell ⟨Q, k, none⟩ (.slice Av nv Cv)) := Ch.setCell (S := fun i => i = Q) (Ch.refl _ w4) (p := ⟨Q, k, none⟩) (Or.inl rfl) _
    have u1 := ks.cell r1 (fun e => he.BQ e)
    have u2 := ks.cell r2 (fun e => hQH e.symm)
    have u3 := ks.cell r3 (fun e => hQH e.symm)
    have kall : Ch F w (w4.setCell ⟨Q, k, none⟩ (.slice Av nv Cv)) := by
      have e1 : Ch (fun _ => False) w1 we := (kd.trans hcc).trans ke
      have e2 : Ch F w1 w4 := ⟨k4.os.trans e1.os, k4.tape.trans e1.tape, k4.output.trans e1.output, Nat.le_trans e1.size k4.size, fun i hi hS => (k4.block i (Nat.lt_of_lt_of_le hi e1.size) (by omega)).trans (e1.block i hi (fun f => f))⟩
      exact (HR.out.ch.trans e2).setCell (p := ⟨Q, k, none⟩) (Or.inl he.fQ) _
    have HP := Lib.hid (show RPost base F B { d with miss := up d.miss k (d.miss k ++ [t]) } (.int .i64 0) w (.returned (.int .i64 0)) (w4.setCell ⟨Q, k, none⟩ (.slice Av nv Cv)) from
      RPost.last h4 (fun i hi => hi.elim Or.inl (fun e => Or.inr ⟨Nat.le_trans HR.out.ch.size e.1, by simpa [World.setCell] using e.2⟩)) HR.out.fl kall HR.out.le)
    obtain ⟨K2, hK2⟩ : ∃ K2, K2 = we.heap.size := ⟨_, rfl⟩
    obtain ⟨ws, hws⟩ : ∃ ws, ws = we.alloc (.cells #[.int .i64 (t : Int)] /-t-/3) := ⟨_, rfl⟩
    rw [← hws] at q1 q2 q3
    rw [← hK2, ← hws] at hr4
    have HRC := Lib.hid hrc'
    have HRUN := Lib.hid hr4
    have HWD := Lib.hid hwd
    have HWE := Lib.hid hwe
    have HWS := Lib.hid hws.symm
    have HK2 := Lib.hid hK2.symm
    change w4.cell? ⟨Q, k, none⟩ = some (m k) at q4
    change w4.frozen? ⟨Q, k, none⟩ = false at f4
    rw [em] at q4
    clear hrc hrc' hr4 hwd hwe hws hK2 kall ks hQH hBH kws k4 h4 hs hsd hme he ke em hb hmc hcc hoc hd kd c0 c4 x0 x1 x4 g0 g1 g4
    refine wp_region_held (S := fun W' : World => W'.cell? ⟨B, 4, none⟩ = some (.slice (some ⟨Q, 0, none⟩) d.n cQ) ∧ W'.cell? ⟨H, 1, none⟩ = some (.int .i64 (k : Int)) ∧ W'.cell? ⟨Q, k, none⟩ = some (.slice Am nm Cm)) (by kernel_rfl) ?_
    change wpAnyH _ _ _ _ _ _ _ _ (World.drew _)
    rw [← HWD.out]
    have HS : (fun W' : World => W'.cell? ⟨B, 4, none⟩ = some (.slice (some ⟨Q, 0, none⟩) d.n cQ) ∧ W'.cell? ⟨H, 1, none⟩ = some (.int .i64 (k : Int)) ∧ W'.cell? ⟨Q, k, none⟩ = some (.slice Am nm Cm)) wd := ⟨z1, z2, z3⟩
    refine wpAnyH_take (i := 0) (v := .pointer (some ⟨B, 0, none⟩)) rfl (by kernel_rfl) (by kernel_rfl) (by kernel_rfl) (fun _ _ _ h => h) (Or.inl ⟨by rfl, fun w' hS => ?_⟩) HS ?_
    · obtain ⟨s1, s2, s3⟩ := hS; go_simp
    refine wpAnyH_take (i := 1) (v := .pointer (some ⟨B, 0, none⟩)) rfl (by kernel_rfl) (by kernel_rfl) (by kernel_rfl) (fun _ _ _ h => h) (Or.inl ⟨by rfl, fun w' hS => ?_⟩) HS ?_
    · obtain ⟨s1, s2, s3⟩ := hS; go_simp
    refine wpAnyH_take (i := 2) (v := .pointer (some ⟨B, 4, none⟩)) rfl (by kernel_rfl) (by kernel_rfl) (by kernel_rfl) (fun _ _ _ h => h) (Or.inl ⟨by rfl, fun w' hS => ?_⟩) HS ?_
    · obtain ⟨s1, s2, s3⟩ := hS; go_simp
    refine wpAnyH_take (i := 3) (v := .slice (some ⟨Q, 0, none⟩) d.n cQ) rfl (by kernel_rfl) (by kernel_rfl) (by kernel_rfl) (fun _ _ _ h => h) (Or.inl ⟨by rfl, fun w' hS => ?_⟩) HS ?_
    · obtain ⟨s1, s2, s3⟩ := hS; go_simp
    refine wpAnyH_take (i := 4) (v := .pointer (some ⟨H, 1, none⟩)) rfl (by kernel_rfl) (by kernel_rfl) (by kernel_rfl) (fun _ _ _ h => h) (Or.inl ⟨by rfl, fun w' hS => ?_⟩) HS ?_
    · obtain ⟨s1, s2, s3⟩ := hS; go_simp
    refine wpAnyH_take (i := 5) (v := .int .i64 (k : Int)) rfl (by kernel_rfl) (by kernel_rfl) (by kernel_rfl) (fun _ _ _ h => h) (Or.inl ⟨by rfl, fun w' hS => ?_⟩) HS ?_
    · obtain ⟨s1, s2, s3⟩ := hS; go_simp
    refine wpAnyH_take (i := 6) (v := .pointer (some ⟨Q, k, none⟩)) rfl (by kernel_rfl) (by kernel_rfl) (by kernel_rfl) (fun _ _ _ h => h) (Or.inl ⟨by rfl, fun w' hS => ?_⟩) HS ?_
    · obtain ⟨s1, s2, s3⟩ := hS; go_simp
    refine wpAnyH_take (i := 7) (v := .slice Am nm Cm) rfl (by kernel_rfl) (by kernel_rfl) (by kernel_rfl) (fun _ _ _ h => h) (Or.inl ⟨by rfl, fun w' hS => ?_⟩) HS ?_
    · obtain ⟨s1, s2, s3⟩ := hS; go_simp
    refine wpAnyH_ready (rs := [8]) (by kernel_rfl) (by simp) ?_
    refine AllReadyH.cons rfl (fun K hK => ?_) AllReadyH.nil
    refine step_appI rfl (.const (.slice none 0 0)) (.tmp 167) rfl rfl _ _ (.slice Ac nc Cc) wb (by first | (simp [Act.eval]; done) | simp [Act.eval, Act.put]) (by first | (simp [Act.eval]; done) | simp [Act.eval, Act.put]) HRC.out ?_
    refine hK.out _ _ ⟨y1, y2, y3⟩ (fun _ => ?_)
    clear hK K
    refine wpAnyH_ready (rs := [9]) (by kernel_rfl) (by simp) ?_
    refine AllReadyH.cons rfl (fun K hK => ?_) AllReadyH.nil
    go_simp
    refine hK.out _ _ ⟨y1, y2, y3⟩ (fun _ => ?_)
    clear hK K
    refine wpAnyH_done (by kernel_rfl) ?_ _
    go_wp2
    refine wp_region_held (S := fun W' : World => W'.cell? ⟨B, 4, none⟩ = some (.slice (some ⟨Q, 0, none⟩) d.n cQ) ∧ W'.cell? ⟨H, 1, none⟩ = some (.int .i64 (k : Int)) ∧ W'.cell? ⟨H, 4, none⟩ = some (.int .i64 (t : Int))) (by kernel_rfl) ?_
    change wpAnyH _ _ _ _ _ _ _ _ (World.drew _)
    rw [← HWE.out]
    have HS : (fun W' : World => W'.cell? ⟨B, 4, none⟩ = some (.slice (some ⟨Q, 0, none⟩) d.n cQ) ∧ W'.cell? ⟨H, 1, none⟩ = some (.int .i64 (k : Int)) ∧ W'.cell? ⟨H, 4, none⟩ = some (.int .i64 (t : Int))) we := ⟨p1, p2, p3⟩
    refine wpAnyH_take (i := 0) (v := .pointer (some ⟨B, 0, none⟩)) rfl (by kernel_rfl) (by kernel_rfl) (by kernel_rfl) (fun _ _ _ h => h) (Or.inl ⟨by rfl, fun w' hS => ?_⟩) HS ?_
    · obtain ⟨s1, s2, s3⟩ := hS; go_simp
    refine wpAnyH_take (i := 1) (v := .pointer (some ⟨B, 0, none⟩)) rfl (by kernel_rfl) (by kernel_rfl) (by kernel_rfl) (fun _ _ _ h => h) (Or.inl ⟨by rfl, fun w' hS => ?_⟩) HS ?_
    · obtain ⟨s1, s2, s3⟩ := hS; go_simp
    refine wpAnyH_take (i := 2) (v := .pointer (some ⟨B, 4, none⟩)) rfl (by kernel_rfl) (by kernel_rfl) (by kernel_rfl) (fun _ _ _ h => h) (Or.inl ⟨by rfl, fun w' hS => ?_⟩) HS ?_
    · obtain ⟨s1, s2, s3⟩ := hS; go_simp
    refine wpAnyH_take (i := 3) (v := .slice (some ⟨Q, 0, none⟩) d.n cQ) rfl (by kernel_rfl) (by kernel_rfl) (by kernel_rfl) (fun _ _ _ h => h) (Or.inl ⟨by rfl, fun w' hS => ?_⟩) HS ?_
    · obtain ⟨s1, s2, s3⟩ := hS; go_simp
    refine wpAnyH_take (i := 4) (v := .pointer (some ⟨H, 1, none⟩)) rfl (by kernel_rfl) (by kernel_rfl) (by kernel_rfl) (fun _ _ _ h => h) (Or.inl ⟨by rfl, fun w' hS => ?_⟩) HS ?_
    · obtain ⟨s1, s2, s3⟩ := hS; go_simp
    refine wpAnyH_take (i := 5) (v := .int .i64 (k : Int)) rfl (by kernel_rfl) (by kernel_rfl) (by kernel_rfl) (fun _ _ _ h => h) (Or.inl ⟨by rfl, fun w' hS => ?_⟩) HS ?_
    · obtain ⟨s1, s2, s3⟩ := hS; go_simp
    refine wpAnyH_take (i := 6) (v := .slice Ac nc Cc) rfl (by kernel_rfl) (by kernel_rfl) (by kernel_rfl) (fun _ _ _ h => h) (Or.inl ⟨by rfl, fun w' hS => ?_⟩) HS ?_
    · obtain ⟨s1, s2, s3⟩ := hS; go_simp
    refine wpAnyH_take (i := 7) (v := .pointer (some ⟨H, 4, none⟩)) rfl (by kernel_rfl) (by kernel_rfl) (by kernel_rfl) (fun _ _ _ h => h) (Or.inl ⟨by rfl, fun w' hS => ?_⟩) HS ?_
    · obtain ⟨s1, s2, s3⟩ := hS; go_simp
    refine wpAnyH_take (i := 8) (v := .int .i64 (t : Int)) rfl (by kernel_rfl) (by kernel_rfl) (by kernel_rfl) (fun _ _ _ h => h) (Or.inl ⟨by rfl, fun w' hS => ?_⟩) HS ?_
    · obtain ⟨s1, s2, s3⟩ := hS; go_simp
    refine wpAnyH_ready (rs := [9]) (by kernel_rfl) (by simp) ?_
    refine AllReadyH.cons rfl (fun K hK => ?_) AllReadyH.nil
    go_simp
    rw [HWS.out, HK2.out]
    refine hK.out _ _ ⟨q1, q2, q3⟩ (fun _ => ?_)
    clear hK K
    refine wpAnyH_ready (rs := [10]) (by kernel_rfl) (by simp) ?_
    refine AllReadyH.cons rfl (fun K hK => ?_) AllReadyH.nil
    refine step_appI rfl (.tmp 175) (.tmp 178) rfl rfl _ _ (.slice Av nv Cv) w4 (by first | (simp [Act.eval]; done) | simp [Act.eval, Act.put]) (by first | (simp [Act.eval]; done) | simp [Act.eval, Act.put]) HRUN.out ?_
    refine hK.out _ _ ⟨r1, r2, r3⟩ (fun _ => ?_)
    clear hK K
    refine wpAnyH_ready (rs := [11]) (by kernel_rfl) (by simp) ?_
    refine AllReadyH.cons rfl (fun K hK => ?_) AllReadyH.nil
    go_simp
    refine hK.out _ _ ⟨r1, r2, r3⟩ (fun _ => ?_)
    clear hK K
    refine wpAnyH_ready (rs := [12]) (by kernel_rfl) (by simp) ?_
    refine AllReadyH.cons rfl (fun K hK => ?_) AllReadyH.nil
    go_simp
    refine hK.out _ _ ⟨u1, u2, u3⟩ (fun _ => ?_)
    clear hK K
    refine wpAnyH_done (by kernel_rfl) ?_ _
    go_wp2
    go_ret
    exact HP.out
#print axioms rfault_miss
end Go.Proofs.Ytjibfoplihaabaa
