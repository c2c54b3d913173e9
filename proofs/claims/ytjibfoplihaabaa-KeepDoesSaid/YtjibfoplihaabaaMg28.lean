/-
  The document's own device (quartermasterref06), walked: Write.
-/
import Derived.Test.YtjibfoplihaabaaMg27
namespace Go.Proofs.Ytjibfoplihaabaa
open Go.RowKit
set_option linter.unusedVariables false
set_option maxRecDepth 100000

/-! ### a copy of the bytes, and a write behind the others -/
theorem RefIs.push {base : Nat} {F : Nat → Prop} {w : World} {q : Rh} {d : Dev} (h : RefIs base F w q d) {sA : Option Addr} {sC to : Nat} {z : Nat → Nat} (hs : RowV w (.slice sA 256 sC) 256 z) (hto : to < d.n) (hl : q.X.length ≤ 1048575) :
    ∃ vb vo vC w4 g cap w5, (Builtin.append_ #[ /-t-/47, /-t-/47] /-t-/47 #[.slice none 0 0, .slice sA 256 sC]).run Try.prog w = .ok (.slice (some ⟨vb, vo, none⟩) 256 vC) w4
      ∧ (Builtin.append_ #[ 64, 64] 64 #[q.V, .slice (some ⟨w4.heap.size, 0, none⟩) 1 1]).run Try.prog (w4.alloc (.cells #[.int .i64 (to : Int), .slice (some ⟨vb, vo, none⟩) 256 vC] 102)) = .ok (.slice (some ⟨g, 0, none⟩) (q.X.length + 1) cap) w5
      ∧ RefIs base (FX F w w5) (w5.setCell ⟨q.B, 2, none⟩ (.slice (some ⟨g, 0, none⟩) (q.X.length + 1) cap)) { q with V := .slice (some ⟨g, 0, none⟩) (q.X.length + 1) cap, X := q.X ++ [(⟨to, z⟩, .slice (some ⟨vb, vo, none⟩) 256 vC)] } { d with W := d.W ++ [⟨to, z⟩] }
      ∧ Ch F w (w5.setCell ⟨q.B, 2, none⟩ (.slice (some ⟨g, 0, none⟩) (q.X.length + 1) cap)) ∧ w4.cell? ⟨q.B, 2, none⟩ = some q.V ∧ w5.cell? ⟨q.B, 2, none⟩ = some q.V ∧ w5.frozen? ⟨q.B, 2, none⟩ = false := by
  obtain ⟨v', w4, hr, ho, hc⟩ := app_copy hs (by omega)
  have hrow := BRow.own ho hs.bytes
  obtain ⟨vb, vo, vC, rfl⟩ := hrow.form
  have h4 := h.gr hc
  have hcs : Ch (fun _ => False) w4 (w4.alloc (.cells #[.int .i64 (to : Int), .slice (some ⟨vb, vo, none⟩) 256 vC] 102)) := (Ch.refl _ w4).alloc _ _
  have h5 := h4.gr hcs
  obtain ⟨g, cap, w5, hr5, ho5, hg5, hv5⟩ := app_wl (y := (⟨to, z⟩, .slice (some ⟨vb, vo, none⟩) 256 vC)) (ad := ⟨w4.heap.size, 0, none⟩) (C := 1) h5.wts h5.le (fun j u hu => by rw [add_pl, Nat.zero_add, alloc_cell]; show ([Value.int .i64 (to : Int), .slice (some ⟨vb, vo, none⟩) 256 vC].toArray)[j]? = some u; rw [List.getElem?_toArray]; exact hu) rfl (by omega)
  have k5 : Ch (fun i => q.V.ownBlock = some i) (w4.alloc (.cells #[.int .i64 (to : Int), .slice (some ⟨vb, vo, none⟩) 256 vC] 102)) w5 := (Ch.refl _ _).grown hg5 (fun i hi => Or.inl hi)
  have hVB := h5.offV h5.blk (by decide)
  have e5 : w5.heap[q.B]? = some (.cells (refC q d) 67 (0, 0)) := (k5.block _ (blk_lt h5.blk) hVB).trans h5.blk
  have hkw : Ch F w w5 := ((hc.trans hcs).mono fun _ _ f => f.elim).trans (k5.mono fun i _ hi => h5.fV i hi)
  have hX := h5.grow h.le (hc.trans hcs).size
  refine ⟨vb, vo, vC, w4, g, cap, w5, hr, hr5, ?_, hkw.setCell (p := ⟨q.B, 2, none⟩) (Or.inl h.fB) _, h4.cellB 2, blk_cell e5, blk_frozen e5⟩
  have h6 := hX.setWX (F' := FX F w w5) (fun i hi => hi.elim Or.inl (fun e => Or.inr ⟨e.1, Nat.lt_of_lt_of_le e.2 k5.size⟩)) (fun i hi => hi.elim (fun f => ⟨h.low i f, Nat.lt_of_lt_of_le (h.hi i f) hkw.size⟩) (fun f => ⟨Nat.le_trans h.le f.1, f.2⟩)) k5 (.slice (some ⟨g, 0, none⟩) (q.X.length + 1) cap) (q.X ++ [(⟨to, z⟩, .slice (some ⟨vb, vo, none⟩) 256 vC)]) ho5 (fun i hi => by
      rcases hv5 with e | e
      · exact Or.inl (h.fV i (e.trans hi))
      · have hgi : g = i := by injection hi
        obtain ⟨_, c, hcg⟩ := own_at ho5 (i := i) hi
        refine Or.inr ⟨?_, blk_lt hcg⟩
        have := (hc.trans hcs).size
        omega) (fun y hy => by
      rcases List.mem_append.1 hy with e | e
      · exact ⟨hX.xrow y e, hX.fx y e, hX.Xpl e⟩
      · rw [List.mem_singleton.1 e]
        refine ⟨hrow.of (fun i hi => ?_), fun i hi => ?_, hto⟩
        · obtain ⟨_, c, hcg⟩ := own_at ho hi
          exact hcs.block i (blk_lt hcg) (fun f => f)
        · obtain ⟨hlo, c, hcg⟩ := own_at ho hi
          exact Or.inr ⟨hlo, Nat.lt_of_lt_of_le (blk_lt hcg) hcs.size⟩)
  rw [List.map_append, h.XW] at h6
  exact h6
#print axioms RefIs.push
theorem step_appM {ops : Array Oper} {o : Oper} {a : Act} {w : World} {K : Act → World → Prop} {Q : Exit → Act → World → Prop} {E : Prop} (hg : o.guard = none) (s x : Operand)
    (hop : o.op = Op.call { callee := Callee.builtin Builtin.append, args := #[s, x], argTypes := #[ /-t-/47, /-t-/47] }) (hty : o.type = /-t-/47) (sv xv v' : Value) (w' : World) (hs : a.eval s = sv) (hx : a.eval x = xv)
    (hrun : (Builtin.append_ #[ /-t-/47, /-t-/47] /-t-/47 #[sv, xv]).run Try.prog w = .ok v' w') (hK : K (a.put o.dst v') w') : if Region.wanted o (yielded ops a.tmps) = true then Oper.wp Try.prog o a w K Q else E := by
  have hw : Region.wanted o (yielded ops a.tmps) = true := by simp [Region.wanted, hg]
  rw [if_pos hw]
  unfold Oper.wp
  simp only [execOp, hop, hty, resolve, invoke, builtin, Sem.run_bind, Sem.run_pure, Result.andThen_ok, List.map_toArray, List.map_cons, List.map_nil, hs, hx, hrun]
  exact hK
theorem step_appL {ops : Array Oper} {o : Oper} {a : Act} {w : World} {K : Act → World → Prop} {Q : Exit → Act → World → Prop} {E : Prop} (hg : o.guard = none) (s x : Operand)
    (hop : o.op = Op.call { callee := Callee.builtin Builtin.append, args := #[s, x], argTypes := #[ 64, 64] }) (hty : o.type = 64) (sv xv v' : Value) (w' : World) (hs : a.eval s = sv) (hx : a.eval x = xv)
    (hrun : (Builtin.append_ #[ 64, 64] 64 #[sv, xv]).run Try.prog w = .ok v' w') (hK : K (a.put o.dst v') w') : if Region.wanted o (yielded ops a.tmps) = true then Oper.wp Try.prog o a w K Q else E := by
  have hw : Region.wanted o (yielded ops a.tmps) = true := by simp [Region.wanted, hg]
  rw [if_pos hw]
  unfold Oper.wp
  simp only [execOp, hop, hty, resolve, invoke, builtin, Sem.run_bind, Sem.run_pure, Result.andThen_ok, List.map_toArray, List.map_cons, List.map_nil, hs, hx, hrun]
  exact hK
theorem RPost.last {base : Nat} {F F' : Nat → Prop} {w w' : World} {q' : Rh} {d' : Dev} {r : Value} (h : RefIs base F' w' q' d') (hf : ∀ i, F' i → FX F w w' i) (hF : ∀ i, F i → base ≤ i ∧ i < w.heap.size) (k : Ch F w w') (h0 : base ≤ w.heap.size) : RPost base F q'.B d' r w (.returned r) w' :=
  ⟨rfl, q', rfl, h.wide hf (fun i hi => hi.elim (fun f => ⟨(hF i f).1, Nat.lt_of_lt_of_le (hF i f).2 k.size⟩) (fun f => ⟨Nat.le_trans h0 f.1, f.2⟩)), k⟩
set_option maxHeartbeats 3200000 in
set_option maxRecDepth 100000 in
theorem rwrite_nil (base : Nat) (F : Nat → Prop) (q : Rh) (d : Dev) (k : Nat) (sb so C : Nat) (z : Nat → Nat) (w : World) (h : RefIs base F w q d) (hs : RowV w (.slice (some ⟨sb, so, none⟩) 256 C) 256 z) (hsf : ¬ F sb)
    (ho : d.ops ≤ 1152921504606846976) (hW : d.W.length ≤ 1048574) (hk : k < d.n) (hop : openE d k = 0) (hy : diesB d = false) (hcm : aimC (wr1 d) k = true) (hm : (wr1 d).miss k = []) :
    Calls Try.prog 44 #[.pointer (some ⟨q.B, 0, none⟩), .int .i64 (k : Int), .slice (some ⟨sb, so, none⟩) 256 C] w (RPost base F q.B (writeD d k 256 z) (.int .i64 (writeE d k 256)) w) := by
  have c0 : w.cell? ⟨q.B, 0, none⟩ = some (.slice (some ⟨q.G, 0, none⟩) d.n q.cG) := h.cellB 0
  have c6 : w.cell? ⟨q.B, 6, none⟩ = some (.bool d.dead) := h.cellB 6
  have hd := (openE_ok hop).1
  rw [hd] at c6
  have hnn := h.nn
  have hle := h.le
  have HLE := Lib.hid hle
  have HFL := Lib.hid (fun i (hi : F i) => h.low' hi)
  have HSR := Lib.hid hs
  have HSF := Lib.hid hsf
  have i1 : (0 : Int) ≤ (k : Int) := Int.natCast_nonneg _
  have i2 : (k : Int) < (d.n : Int) := by omega
  have HY := Lib.hid (rdies_any base F q d w h)
  unfold DiesPost at HY
  rw [hy] at HY
  have HD1 := Lib.hid (diesD_more d)
  have hS := write_goes (z := z) hop hy hcm
  rw [hS.1, hS.2]
  have hdr0 : d.drops k = 0 := by
    have := of_decide_eq_true hcm
    have e : (wr1 d).drops k = d.drops k := by show (diesD d).drops k = _; rw [HD1.out.2.2.2]
    omega
  have hneg : ¬ 0 < (wr1 d).drops k := of_decide_eq_true hcm
  have HK := Lib.hid hk
  have eT : aimT (wr1 d) k = k := by unfold aimT; rw [if_neg hneg, hm]
  have eD : aimD (wr1 d) k = wr1 d := by unfold aimD; rw [if_neg hneg, hm]
  rw [eT, eD]
  have HM := Lib.hid hm
  obtain ⟨e3, he3⟩ : ∃ e3, e3 = wr1 d := ⟨_, rfl⟩
  have HE3 := Lib.hid (show e3.W = d.W by rw [he3]; exact HD1.out.2.1)
  rw [← he3]
  have HEQ := Lib.hid he3
  clear eT eD he3
  clear hS hs hsf hop hy hd hk h hcm hneg hm
  go_enter Try.func44, Try.ntmps44
  go_wp2_with fail
  refine HY.out.mono ?_
  rintro e w1 ⟨rfl, lf1, h1, hc1⟩
  have h2 := h1.setOps (d.ops + 1)
  have hc2 : Ch F w (w1.setCell ⟨q.B, 8, none⟩ (.int .i64 ((d.ops + 1 : Nat) : Int))) := hc1.trans (h1.chB 8 _)
  have c8 : w1.cell? ⟨q.B, 8, none⟩ = some (.int .i64 ((diesD d).ops : Int)) := h1.cellB 8
  rw [HD1.out.2.2.1] at c8
  have f8 : w1.frozen? ⟨q.B, 8, none⟩ = false := h1.frB 8
  rw [show ((d.ops + 1 : Nat) : Int) = (d.ops : Int) + 1 by omega] at h2 hc2
  obtain ⟨w2, hw2⟩ : ∃ w2, w1.setCell ⟨q.B, 8, none⟩ (.int .i64 ((d.ops : Int) + 1)) = w2 := ⟨_, rfl⟩
  change RefIs base F (w1.setCell ⟨q.B, 8, none⟩ (.int .i64 ((d.ops : Int) + 1))) { q with lf := lf1 } (wr1 d) at h2
  rw [hw2] at h2 hc2
  have hn2 : (wr1 d).n = d.n := HD1.out.1
  have d3 : w2.cell? ⟨q.B, 3, none⟩ = some (.slice (some ⟨q.P, 0, none⟩) (wr1 d).n q.cP) := h2.cellB 3
  rw [hn2] at d3
  have dp : w2.cell? ⟨q.P, k, none⟩ = some (.int .i64 ((wr1 d).drops k : Int)) := h2.cellP (by rw [hn2]; exact HK.out)
  rw [show ((wr1 d).drops k : Int) = 0 by rw [show (wr1 d).drops k = d.drops k by show (diesD d).drops k = _; rw [HD1.out.2.2.2]]; omega] at dp
  have d4 : w2.cell? ⟨q.B, 4, none⟩ = some (.slice (some ⟨q.Q, 0, none⟩) (wr1 d).n q.cQ) := h2.cellB 4
  rw [hn2] at d4
  have dm : w2.cell? ⟨q.Q, k, none⟩ = some (q.m k) := h2.cellQ (by rw [hn2]; exact HK.out)
  have hms := h2.ms k (by rw [hn2]; exact HK.out)
  rw [HM.out] at hms
  obtain ⟨mA, mC, hmk⟩ : ∃ mA mC, q.m k = .slice mA 0 mC := by
    rcases hms with ⟨hv, _⟩ | ⟨b, o, cap, c, hv, _⟩
    · exact ⟨_, _, hv⟩
    · exact ⟨_, _, hv⟩
  rw [hmk] at dm
  have HTO := Lib.hid (show k < (wr1 d).n by rw [hn2]; exact HK.out)
  rw [← HEQ.out] at h2 HTO
  have HQ2 := Lib.hid h2
  have HC2 := Lib.hid hc2
  obtain ⟨B, G, L, P, Q, cG, cL, cP, cQ, V, s, X, m', lf⟩ := q
  clear h1 hc1 h2 hc2 HY hms hmk hn2 HEQ
  go_wp2
  have h3 := HQ2.out
  have kw3 := HC2.out
  clear HQ2 HC2
  obtain ⟨wd, hwd⟩ : ∃ wd, wd = w2.drew := ⟨_, rfl⟩
  have hd : RefIs base F wd ⟨B, G, L, P, Q, cG, cL, cP, cQ, V, s, X, m', lf1⟩ e3 := by rw [hwd]; exact h3.gr ((Ch.refl _ _).drew)
  have kwd : Ch F w wd := by rw [hwd]; exact kw3.drew
  have hsd : RowV wd (.slice (some ⟨sb, so, none⟩) 256 C) 256 z := HSR.out.far kwd HSF.out
  obtain ⟨vb, vo, vC, w5, g, cap, w6, hr1, hr2, h6, hk6, z1, z2, z3⟩ := hd.push hsd (to := k) HTO.out (by have := hd.XL; rw [HE3.out] at this; omega)
  have c2d : wd.cell? ⟨B, 2, none⟩ = some V := hd.cellB 2
  obtain ⟨A3, C3, hV3⟩ : ∃ A3 C3, V = .slice A3 X.length C3 := hd.vform
  obtain ⟨N, hN⟩ : ∃ N, N = X.length + 1 := ⟨_, rfl⟩
  obtain ⟨K2, hK2⟩ : ∃ K2, K2 = w5.heap.size := ⟨_, rfl⟩
  obtain ⟨ws, hws⟩ : ∃ ws, ws = w5.alloc (.cells #[.int .i64 (k : Int), .slice (some ⟨vb, vo, none⟩) 256 vC] 102) := ⟨_, rfl⟩
  have hsl := slice_wl w5 (.int .i64 (k : Int)) (.slice (some ⟨vb, vo, none⟩) 256 vC)
  rw [← hK2, ← hws] at hsl
  rw [show (⟨B, G, L, P, Q, cG, cL, cP, cQ, V, s, X, m', lf1⟩ : Rh).X.length + 1 = N from hN.symm, show (⟨B, G, L, P, Q, cG, cL, cP, cQ, V, s, X, m', lf1⟩ : Rh).V = V from rfl, ← hK2, ← hws] at hr2
  rw [show (⟨B, G, L, P, Q, cG, cL, cP, cQ, V, s, X, m', lf1⟩ : Rh).X.length + 1 = N from hN.symm, HE3.out] at h6
  rw [show (⟨B, G, L, P, Q, cG, cL, cP, cQ, V, s, X, m', lf1⟩ : Rh).X.length + 1 = N from hN.symm] at hk6
  have c2s : ws.cell? ⟨B, 2, none⟩ = some V := by rw [hws]; exact Lib.cell?_alloc_some _ z1
  change w5.cell? ⟨B, 2, none⟩ = some V at z1
  change w6.cell? ⟨B, 2, none⟩ = some V at z2
  have HP := Lib.hid (RPost.last (r := .int .i64 0) h6 (fun i hi => hi.elim Or.inl (fun e => Or.inr ⟨Nat.le_trans kwd.size e.1, by simpa [World.setCell] using e.2⟩)) HFL.out (kwd.trans hk6) HLE.out)
  have HR1 := Lib.hid hr1
  have HSL := Lib.hid hsl
  have HWD := Lib.hid hwd
  rw [hV3] at c2d z1 z2 c2s hr2
  obtain ⟨L3, hL3⟩ : ∃ L3, L3 = X.length := ⟨_, rfl⟩
  rw [← hL3] at c2d z1 z2 c2s hr2
  have HR2 := Lib.hid hr2
  clear hr1 hr2 hsl h6 hk6 hsd hd h3 kw3 kwd hwd hV3 hN hK2 hws hL3
  refine wp_region_held (S := fun _ => True) (by kernel_rfl) ?_
  change wpAnyH _ _ _ _ _ _ _ _ (World.drew _)
  rw [← HWD.out]
  have HS : (fun _ : World => True) wd := trivial
  refine wpAnyH_take (i := 0) (v := .pointer (some ⟨B, 0, none⟩)) rfl (by kernel_rfl) (by kernel_rfl) (by kernel_rfl) (fun _ _ _ h => h) (Or.inl ⟨by rfl, fun w' hS => ?_⟩) HS ?_
  · clear hS; go_simp
  refine wpAnyH_take (i := 1) (v := .pointer (some ⟨B, 0, none⟩)) rfl (by kernel_rfl) (by kernel_rfl) (by kernel_rfl) (fun _ _ _ h => h) (Or.inl ⟨by rfl, fun w' hS => ?_⟩) HS ?_
  · clear hS; go_simp
  refine wpAnyH_take (i := 2) (v := .pointer (some ⟨B, 0, none⟩)) rfl (by kernel_rfl) (by kernel_rfl) (by kernel_rfl) (fun _ _ _ h => h) (Or.inl ⟨by rfl, fun w' hS => ?_⟩) HS ?_
  · clear hS; go_simp
  refine wpAnyH_take (i := 3) (v := .pointer (some ⟨B, 2, none⟩)) rfl (by kernel_rfl) (by kernel_rfl) (by kernel_rfl) (fun _ _ _ h => h) (Or.inl ⟨by rfl, fun w' hS => ?_⟩) HS ?_
  · clear hS; go_simp
  refine wpAnyH_take (i := 5) (v := .int .i64 (k : Int)) rfl (by kernel_rfl) (by kernel_rfl) (by kernel_rfl) (fun _ _ _ h => h) (Or.inl ⟨by rfl, fun w' hS => ?_⟩) HS ?_
  · clear hS; go_simp
  refine wpAnyH_take (i := 6) (v := .slice (some ⟨sb, so, none⟩) 256 C) rfl (by kernel_rfl) (by kernel_rfl) (by kernel_rfl) (fun _ _ _ h => h) (Or.inl ⟨by rfl, fun w' hS => ?_⟩) HS ?_
  · clear hS; go_simp
  refine wpAnyH_ready (rs := [4, 7]) (by kernel_rfl) (by simp) ?_
  refine AllReadyH.cons rfl (fun K hK => ?_) (AllReadyH.cons rfl (fun K hK => ?_) AllReadyH.nil)
  · go_simp
    refine hK.out _ _ trivial (fun _ => ?_)
    clear hK K
    refine wpAnyH_ready (rs := [7]) (by kernel_rfl) (by simp) ?_
    refine AllReadyH.cons rfl (fun K hK => ?_) AllReadyH.nil
    refine step_appM rfl (.const (.slice none 0 0)) (.tmp 91) rfl rfl _ _ (.slice (some ⟨vb, vo, none⟩) 256 vC) w5 (by first | (simp [Act.eval]; done) | simp [Act.eval, Act.put]) (by first | (simp [Act.eval]; done) | simp [Act.eval, Act.put]) HR1.out ?_
    refine hK.out _ _ trivial (fun _ => ?_)
    clear hK K
    refine wpAnyH_take (i := 8) (v := .agg #[.int .i64 (k : Int), .slice (some ⟨vb, vo, none⟩) 256 vC]) rfl (by kernel_rfl) (by kernel_rfl) (by kernel_rfl) (fun _ _ _ h => h) (Or.inl ⟨by rfl, fun w' hS => ?_⟩) HS ?_
    · clear hS; go_simp
    refine wpAnyH_ready (rs := [9]) (by kernel_rfl) (by simp) ?_
    refine AllReadyH.cons rfl (fun K hK => ?_) AllReadyH.nil
    refine step_slicing1 rfl 64 0 1 (.tmp 93) rfl (.agg #[.int .i64 (k : Int), .slice (some ⟨vb, vo, none⟩) 256 vC]) (.slice (some ⟨K2, 0, none⟩) 1 1) ws (by first | (simp [Act.eval]; done) | simp [Act.eval, Act.put]) HSL.out ?_
    refine hK.out _ _ trivial (fun _ => ?_)
    clear hK K
    refine wpAnyH_ready (rs := [10]) (by kernel_rfl) (by simp) ?_
    refine AllReadyH.cons rfl (fun K hK => ?_) AllReadyH.nil
    refine step_appL rfl (.tmp 89) (.tmp 94) rfl rfl _ _ (.slice (some ⟨g, 0, none⟩) N cap) w6 (by first | (simp [Act.eval]; done) | simp [Act.eval, Act.put]) (by first | (simp [Act.eval]; done) | simp [Act.eval, Act.put]) HR2.out ?_
    refine hK.out _ _ trivial (fun _ => ?_)
    clear hK K
    refine wpAnyH_ready (rs := [11]) (by kernel_rfl) (by simp) ?_
    refine AllReadyH.cons rfl (fun K hK => ?_) AllReadyH.nil
    go_simp
    refine hK.out _ _ trivial (fun _ => ?_)
    clear hK K
    refine wpAnyH_ready (rs := [12]) (by kernel_rfl) (by simp) ?_
    refine AllReadyH.cons rfl (fun K hK => ?_) AllReadyH.nil
    go_simp
    refine hK.out _ _ trivial (fun _ => ?_)
    clear hK K
    refine wpAnyH_ready (rs := [13]) (by kernel_rfl) (by simp) ?_
    refine AllReadyH.cons rfl (fun K hK => ?_) AllReadyH.nil
    go_simp
    refine hK.out _ _ trivial (fun _ => ?_)
    clear hK K
    refine wpAnyH_done (by kernel_rfl) ?_ _
    go_wp2
    go_ret
    exact HP.out
  · refine step_appM rfl (.const (.slice none 0 0)) (.tmp 91) rfl rfl _ _ (.slice (some ⟨vb, vo, none⟩) 256 vC) w5 (by first | (simp [Act.eval]; done) | simp [Act.eval, Act.put]) (by first | (simp [Act.eval]; done) | simp [Act.eval, Act.put]) HR1.out ?_
    refine hK.out _ _ trivial (fun _ => ?_)
    clear hK K
    refine wpAnyH_take (i := 8) (v := .agg #[.int .i64 (k : Int), .slice (some ⟨vb, vo, none⟩) 256 vC]) rfl (by kernel_rfl) (by kernel_rfl) (by kernel_rfl) (fun _ _ _ h => h) (Or.inl ⟨by rfl, fun w' hS => ?_⟩) HS ?_
    · clear hS; go_simp
    refine wpAnyH_ready (rs := [4, 9]) (by kernel_rfl) (by simp) ?_
    refine AllReadyH.cons rfl (fun K hK => ?_) (AllReadyH.cons rfl (fun K hK => ?_) AllReadyH.nil)
    · go_simp
      refine hK.out _ _ trivial (fun _ => ?_)
      clear hK K
      refine wpAnyH_ready (rs := [9]) (by kernel_rfl) (by simp) ?_
      refine AllReadyH.cons rfl (fun K hK => ?_) AllReadyH.nil
      refine step_slicing1 rfl 64 0 1 (.tmp 93) rfl (.agg #[.int .i64 (k : Int), .slice (some ⟨vb, vo, none⟩) 256 vC]) (.slice (some ⟨K2, 0, none⟩) 1 1) ws (by first | (simp [Act.eval]; done) | simp [Act.eval, Act.put]) HSL.out ?_
      refine hK.out _ _ trivial (fun _ => ?_)
      clear hK K
      refine wpAnyH_ready (rs := [10]) (by kernel_rfl) (by simp) ?_
      refine AllReadyH.cons rfl (fun K hK => ?_) AllReadyH.nil
      refine step_appL rfl (.tmp 89) (.tmp 94) rfl rfl _ _ (.slice (some ⟨g, 0, none⟩) N cap) w6 (by first | (simp [Act.eval]; done) | simp [Act.eval, Act.put]) (by first | (simp [Act.eval]; done) | simp [Act.eval, Act.put]) HR2.out ?_
      refine hK.out _ _ trivial (fun _ => ?_)
      clear hK K
      refine wpAnyH_ready (rs := [11]) (by kernel_rfl) (by simp) ?_
      refine AllReadyH.cons rfl (fun K hK => ?_) AllReadyH.nil
      go_simp
      refine hK.out _ _ trivial (fun _ => ?_)
      clear hK K
      refine wpAnyH_ready (rs := [12]) (by kernel_rfl) (by simp) ?_
      refine AllReadyH.cons rfl (fun K hK => ?_) AllReadyH.nil
      go_simp
      refine hK.out _ _ trivial (fun _ => ?_)
      clear hK K
      refine wpAnyH_ready (rs := [13]) (by kernel_rfl) (by simp) ?_
      refine AllReadyH.cons rfl (fun K hK => ?_) AllReadyH.nil
      go_simp
      refine hK.out _ _ trivial (fun _ => ?_)
      clear hK K
      refine wpAnyH_done (by kernel_rfl) ?_ _
      go_wp2
      go_ret
      exact HP.out
    · refine step_slicing1 rfl 64 0 1 (.tmp 93) rfl (.agg #[.int .i64 (k : Int), .slice (some ⟨vb, vo, none⟩) 256 vC]) (.slice (some ⟨K2, 0, none⟩) 1 1) ws (by first | (simp [Act.eval]; done) | simp [Act.eval, Act.put]) HSL.out ?_
      refine hK.out _ _ trivial (fun _ => ?_)
      clear hK K
      refine wpAnyH_ready (rs := [4]) (by kernel_rfl) (by simp) ?_
      refine AllReadyH.cons rfl (fun K hK => ?_) AllReadyH.nil
      go_simp
      refine hK.out _ _ trivial (fun _ => ?_)
      clear hK K
      refine wpAnyH_ready (rs := [10]) (by kernel_rfl) (by simp) ?_
      refine AllReadyH.cons rfl (fun K hK => ?_) AllReadyH.nil
      refine step_appL rfl (.tmp 89) (.tmp 94) rfl rfl _ _ (.slice (some ⟨g, 0, none⟩) N cap) w6 (by first | (simp [Act.eval]; done) | simp [Act.eval, Act.put]) (by first | (simp [Act.eval]; done) | simp [Act.eval, Act.put]) HR2.out ?_
      refine hK.out _ _ trivial (fun _ => ?_)
      clear hK K
      refine wpAnyH_ready (rs := [11]) (by kernel_rfl) (by simp) ?_
      refine AllReadyH.cons rfl (fun K hK => ?_) AllReadyH.nil
      go_simp
      refine hK.out _ _ trivial (fun _ => ?_)
      clear hK K
      refine wpAnyH_ready (rs := [12]) (by kernel_rfl) (by simp) ?_
      refine AllReadyH.cons rfl (fun K hK => ?_) AllReadyH.nil
      go_simp
      refine hK.out _ _ trivial (fun _ => ?_)
      clear hK K
      refine wpAnyH_ready (rs := [13]) (by kernel_rfl) (by simp) ?_
      refine AllReadyH.cons rfl (fun K hK => ?_) AllReadyH.nil
      go_simp
      refine hK.out _ _ trivial (fun _ => ?_)
      clear hK K
      refine wpAnyH_done (by kernel_rfl) ?_ _
      go_wp2
      go_ret
      exact HP.out
set_option maxHeartbeats 3200000 in
set_option maxRecDepth 100000 in
theorem rwrite_cons (base : Nat) (F : Nat → Prop) (q : Rh) (d : Dev) (k : Nat) (sb so C : Nat) (z : Nat → Nat) (w : World) (h : RefIs base F w q d) (hs : RowV w (.slice (some ⟨sb, so, none⟩) 256 C) 256 z) (hsf : ¬ F sb)
    (ho : d.ops ≤ 1152921504606846976) (hW : d.W.length ≤ 1048574) (hk : k < d.n) (hop : openE d k = 0) (hy : diesB d = false) (hcm : aimC (wr1 d) k = true) (t : Nat) (r : List Nat) (hm : (wr1 d).miss k = t :: r) :
    Calls Try.prog 44 #[.pointer (some ⟨q.B, 0, none⟩), .int .i64 (k : Int), .slice (some ⟨sb, so, none⟩) 256 C] w (RPost base F q.B (writeD d k 256 z) (.int .i64 (writeE d k 256)) w) := by
  have c0 : w.cell? ⟨q.B, 0, none⟩ = some (.slice (some ⟨q.G, 0, none⟩) d.n q.cG) := h.cellB 0
  have c6 : w.cell? ⟨q.B, 6, none⟩ = some (.bool d.dead) := h.cellB 6
  have hd := (openE_ok hop).1
  rw [hd] at c6
  have hnn := h.nn
  have hle := h.le
  have HLE := Lib.hid hle
  have HFL := Lib.hid (fun i (hi : F i) => h.low' hi)
  have HSR := Lib.hid hs
  have HSF := Lib.hid hsf
  have i1 : (0 : Int) ≤ (k : Int) := Int.natCast_nonneg _
  have i2 : (k : Int) < (d.n : Int) := by omega
  have HY := Lib.hid (rdies_any base F q d w h)
  unfold DiesPost at HY
  rw [hy] at HY
  have HD1 := Lib.hid (diesD_more d)
  have hS := write_goes (z := z) hop hy hcm
  rw [hS.1, hS.2]
  have hdr0 : d.drops k = 0 := by
    have := of_decide_eq_true hcm
    have e : (wr1 d).drops k = d.drops k := by show (diesD d).drops k = _; rw [HD1.out.2.2.2]
    omega
  have hneg : ¬ 0 < (wr1 d).drops k := of_decide_eq_true hcm
  have HK := Lib.hid hk
  have eT : aimT (wr1 d) k = t := by unfold aimT; rw [if_neg hneg, hm]
  have eD : aimD (wr1 d) k = { wr1 d with miss := up (wr1 d).miss k r } := by unfold aimD; rw [if_neg hneg, hm]
  rw [eT, eD]
  have HM := Lib.hid hm
  obtain ⟨e3, he3⟩ : ∃ e3, e3 = ({ wr1 d with miss := up (wr1 d).miss k r } : Dev) := ⟨_, rfl⟩
  have HE3 := Lib.hid (show e3.W = d.W by rw [he3]; exact HD1.out.2.1)
  have HN3 := Lib.hid (show e3.n = (wr1 d).n by rw [he3])
  rw [show ({ ({ wr1 d with miss := up (wr1 d).miss k r } : Dev) with W := d.W ++ [⟨t, z⟩] } : Dev) = { e3 with W := d.W ++ [⟨t, z⟩] } by rw [he3]]
  have HEQ := Lib.hid he3
  clear eT eD he3
  clear hS hs hsf hop hy hd hk h hcm hneg hm
  go_enter Try.func44, Try.ntmps44
  go_wp2_with fail
  refine HY.out.mono ?_
  rintro e w1 ⟨rfl, lf1, h1, hc1⟩
  have h2 := h1.setOps (d.ops + 1)
  have hc2 : Ch F w (w1.setCell ⟨q.B, 8, none⟩ (.int .i64 ((d.ops + 1 : Nat) : Int))) := hc1.trans (h1.chB 8 _)
  have c8 : w1.cell? ⟨q.B, 8, none⟩ = some (.int .i64 ((diesD d).ops : Int)) := h1.cellB 8
  rw [HD1.out.2.2.1] at c8
  have f8 : w1.frozen? ⟨q.B, 8, none⟩ = false := h1.frB 8
  rw [show ((d.ops + 1 : Nat) : Int) = (d.ops : Int) + 1 by omega] at h2 hc2
  obtain ⟨w2, hw2⟩ : ∃ w2, w1.setCell ⟨q.B, 8, none⟩ (.int .i64 ((d.ops : Int) + 1)) = w2 := ⟨_, rfl⟩
  change RefIs base F (w1.setCell ⟨q.B, 8, none⟩ (.int .i64 ((d.ops : Int) + 1))) { q with lf := lf1 } (wr1 d) at h2
  rw [hw2] at h2 hc2
  have hn2 : (wr1 d).n = d.n := HD1.out.1
  have d3 : w2.cell? ⟨q.B, 3, none⟩ = some (.slice (some ⟨q.P, 0, none⟩) (wr1 d).n q.cP) := h2.cellB 3
  rw [hn2] at d3
  have dp : w2.cell? ⟨q.P, k, none⟩ = some (.int .i64 ((wr1 d).drops k : Int)) := h2.cellP (by rw [hn2]; exact HK.out)
  rw [show ((wr1 d).drops k : Int) = 0 by rw [show (wr1 d).drops k = d.drops k by show (diesD d).drops k = _; rw [HD1.out.2.2.2]]; omega] at dp
  have d4 : w2.cell? ⟨q.B, 4, none⟩ = some (.slice (some ⟨q.Q, 0, none⟩) (wr1 d).n q.cQ) := h2.cellB 4
  rw [hn2] at d4
  have dm : w2.cell? ⟨q.Q, k, none⟩ = some (q.m k) := h2.cellQ (by rw [hn2]; exact HK.out)
  have hms := h2.ms k (by rw [hn2]; exact HK.out)
  rw [HM.out] at hms
  obtain ⟨b, o, cap0, c, hv, hcap, hb, hsz, hmx, hall⟩ : ∃ b o cap c, q.m k = .slice (some ⟨b, o, none⟩) (r.length + 1) cap ∧ r.length + 1 ≤ cap ∧ w2.heap[b]? = some (.cells c 3 (0, 0)) ∧ o + cap ≤ c.size ∧ cap ≤ 9223372036854775807 ∧ ∀ i x : Nat, (t :: r)[i]? = some x → c[o + i]? = some (.int .i64 (x : Int)) := by
    rcases hms with ⟨_, hv⟩ | ⟨b, o, cap, c, hv, h1, h2, h3, h4, h5⟩
    · cases hv
    · exact ⟨b, o, cap, c, hv, h1, h2, h3, h4, h5⟩
  have ct : w2.cell? ⟨b, o, none⟩ = some (.int .i64 (t : Int)) := by rw [blk_cell hb]; exact hall 0 t rfl
  have hdone : ∀ v : Value, v.ownBlock = some b → (∀ w' : World, w'.heap[b]? = some (.cells c 3 (0, 0)) → MissIs w' v r) → RefIs base F (w2.setCell ⟨q.Q, k, none⟩ v) { { q with lf := lf1 } with m := up q.m k v } { wr1 d with miss := up (wr1 d).miss k r } := fun v hvb hvm =>
    h2.setQ (a := k) v r (hvm _ hb) (fun e => h2.mP k (by rw [hn2]; exact HK.out) (by show (q.m k).ownBlock = _; rw [hv]; rw [hvb] at e; exact e)) (fun i hi => h2.fm k (by rw [hn2]; exact HK.out) i (by show (q.m k).ownBlock = _; rw [hv]; rw [hvb] at hi; exact hi)) (fun x hx => h2.mok k (by rw [hn2]; exact HK.out) x (by rw [HM.out]; exact List.mem_cons_of_mem _ hx))
  have fq : w2.frozen? ⟨q.Q, k, none⟩ = false := h2.mis.frozen k
  have HTO := Lib.hid (show t < (wr1 d).n from h2.mok k (by rw [hn2]; exact HK.out) t (by rw [HM.out]; exact List.mem_cons_self))
  have HCQ : Hid (∀ v, Ch F w (w2.setCell ⟨q.Q, k, none⟩ v)) := fun v => hc2.setCell (p := ⟨q.Q, k, none⟩) (Or.inl h2.fQ) v
  rw [← HEQ.out] at hdone
  have HQ2 := Lib.hid hdone
  rw [hv] at dm
  have u1 : ((r.length + 1 : Nat) : Int) = (r.length : Int) + 1 := by omega
  by_cases hC : cap0 = 1
  · subst hC
    have hr0 : r = [] := List.eq_nil_of_length_eq_zero (by omega)
    subst hr0
    have H3 := Lib.hid (HQ2.out (.slice (some ⟨b, o, none⟩) 0 0) rfl (fun w' hw' => Or.inr ⟨b, o, 0, c, rfl, Nat.le_refl _, hw', by omega, by omega, fun i x hx => by cases hx⟩))
    have K3 := Lib.hid (HCQ.out (.slice (some ⟨b, o, none⟩) 0 0))
    obtain ⟨B, G, L, P, Q, cG, cL, cP, cQ, V, s, X, m, lf⟩ := q
    clear h1 hc1 h2 hc2 HY HEQ hms hv hdone hall hb hsz hcap u1 hmx HQ2 HCQ hn2
    go_wp2
    go_region
    go_wp2
    obtain ⟨w3, hw3⟩ : ∃ w3, w3 = (w2.setCell ⟨Q, k, none⟩ (.slice (some ⟨b, o, none⟩) 0 0)).drew := ⟨_, rfl⟩
    obtain ⟨m', hm'⟩ : ∃ m', m' = up m k (.slice (some ⟨b, o, none⟩) 0 0) := ⟨_, rfl⟩
    have h3 : RefIs base F w3 ⟨B, G, L, P, Q, cG, cL, cP, cQ, V, s, X, m', lf1⟩ e3 := by rw [hw3, hm']; exact H3.out.gr ((Ch.refl _ _).drew)
    have kw3 : Ch F w w3 := by rw [hw3]; exact K3.out.drew
    rw [← hw3]
    clear hw3 hm' H3 K3 d3 dp d4 dm fq ct
    obtain ⟨wd, hwd⟩ : ∃ wd, wd = w3.drew := ⟨_, rfl⟩
    have hd : RefIs base F wd ⟨B, G, L, P, Q, cG, cL, cP, cQ, V, s, X, m', lf1⟩ e3 := by rw [hwd]; exact h3.gr ((Ch.refl _ _).drew)
    have kwd : Ch F w wd := by rw [hwd]; exact kw3.drew
    have hsd : RowV wd (.slice (some ⟨sb, so, none⟩) 256 C) 256 z := HSR.out.far kwd HSF.out
    obtain ⟨vb, vo, vC, w5, g, cap, w6, hr1, hr2, h6, hk6, z1, z2, z3⟩ := hd.push hsd (to := t) (by rw [HN3.out]; exact HTO.out) (by have := hd.XL; rw [HE3.out] at this; omega)
    have c2d : wd.cell? ⟨B, 2, none⟩ = some V := hd.cellB 2
    obtain ⟨A3, C3, hV3⟩ : ∃ A3 C3, V = .slice A3 X.length C3 := hd.vform
    obtain ⟨N, hN⟩ : ∃ N, N = X.length + 1 := ⟨_, rfl⟩
    obtain ⟨K2, hK2⟩ : ∃ K2, K2 = w5.heap.size := ⟨_, rfl⟩
    obtain ⟨ws, hws⟩ : ∃ ws, ws = w5.alloc (.cells #[.int .i64 (t : Int), .slice (some ⟨vb, vo, none⟩) 256 vC] 102) := ⟨_, rfl⟩
    have hsl := slice_wl w5 (.int .i64 (t : Int)) (.slice (some ⟨vb, vo, none⟩) 256 vC)
    rw [← hK2, ← hws] at hsl
    rw [show (⟨B, G, L, P, Q, cG, cL, cP, cQ, V, s, X, m', lf1⟩ : Rh).X.length + 1 = N from hN.symm, show (⟨B, G, L, P, Q, cG, cL, cP, cQ, V, s, X, m', lf1⟩ : Rh).V = V from rfl, ← hK2, ← hws] at hr2
    rw [show (⟨B, G, L, P, Q, cG, cL, cP, cQ, V, s, X, m', lf1⟩ : Rh).X.length + 1 = N from hN.symm, HE3.out] at h6
    rw [show (⟨B, G, L, P, Q, cG, cL, cP, cQ, V, s, X, m', lf1⟩ : Rh).X.length + 1 = N from hN.symm] at hk6
    have c2s : ws.cell? ⟨B, 2, none⟩ = some V := by rw [hws]; exact Lib.cell?_alloc_some _ z1
    change w5.cell? ⟨B, 2, none⟩ = some V at z1
    change w6.cell? ⟨B, 2, none⟩ = some V at z2
    have HP := Lib.hid (RPost.last (r := .int .i64 0) h6 (fun i hi => hi.elim Or.inl (fun e => Or.inr ⟨Nat.le_trans kwd.size e.1, by simpa [World.setCell] using e.2⟩)) HFL.out (kwd.trans hk6) HLE.out)
    have HR1 := Lib.hid hr1
    have HSL := Lib.hid hsl
    have HWD := Lib.hid hwd
    rw [hV3] at c2d z1 z2 c2s hr2
    obtain ⟨L3, hL3⟩ : ∃ L3, L3 = X.length := ⟨_, rfl⟩
    rw [← hL3] at c2d z1 z2 c2s hr2
    have HR2 := Lib.hid hr2
    clear hr1 hr2 hsl h6 hk6 hsd hd h3 kw3 kwd hwd hV3 hN hK2 hws hL3
    refine wp_region_held (S := fun _ => True) (by kernel_rfl) ?_
    change wpAnyH _ _ _ _ _ _ _ _ (World.drew _)
    rw [← HWD.out]
    have HS : (fun _ : World => True) wd := trivial
    refine wpAnyH_take (i := 0) (v := .pointer (some ⟨B, 0, none⟩)) rfl (by kernel_rfl) (by kernel_rfl) (by kernel_rfl) (fun _ _ _ h => h) (Or.inl ⟨by rfl, fun w' hS => ?_⟩) HS ?_
    · clear hS; go_simp
    refine wpAnyH_take (i := 1) (v := .pointer (some ⟨B, 0, none⟩)) rfl (by kernel_rfl) (by kernel_rfl) (by kernel_rfl) (fun _ _ _ h => h) (Or.inl ⟨by rfl, fun w' hS => ?_⟩) HS ?_
    · clear hS; go_simp
    refine wpAnyH_take (i := 2) (v := .pointer (some ⟨B, 0, none⟩)) rfl (by kernel_rfl) (by kernel_rfl) (by kernel_rfl) (fun _ _ _ h => h) (Or.inl ⟨by rfl, fun w' hS => ?_⟩) HS ?_
    · clear hS; go_simp
    refine wpAnyH_take (i := 3) (v := .pointer (some ⟨B, 2, none⟩)) rfl (by kernel_rfl) (by kernel_rfl) (by kernel_rfl) (fun _ _ _ h => h) (Or.inl ⟨by rfl, fun w' hS => ?_⟩) HS ?_
    · clear hS; go_simp
    refine wpAnyH_take (i := 5) (v := .int .i64 (t : Int)) rfl (by kernel_rfl) (by kernel_rfl) (by kernel_rfl) (fun _ _ _ h => h) (Or.inl ⟨by rfl, fun w' hS => ?_⟩) HS ?_
    · clear hS; go_simp
    refine wpAnyH_take (i := 6) (v := .slice (some ⟨sb, so, none⟩) 256 C) rfl (by kernel_rfl) (by kernel_rfl) (by kernel_rfl) (fun _ _ _ h => h) (Or.inl ⟨by rfl, fun w' hS => ?_⟩) HS ?_
    · clear hS; go_simp
    refine wpAnyH_ready (rs := [4, 7]) (by kernel_rfl) (by simp) ?_
    refine AllReadyH.cons rfl (fun K hK => ?_) (AllReadyH.cons rfl (fun K hK => ?_) AllReadyH.nil)
    · go_simp
      refine hK.out _ _ trivial (fun _ => ?_)
      clear hK K
      refine wpAnyH_ready (rs := [7]) (by kernel_rfl) (by simp) ?_
      refine AllReadyH.cons rfl (fun K hK => ?_) AllReadyH.nil
      refine step_appM rfl (.const (.slice none 0 0)) (.tmp 91) rfl rfl _ _ (.slice (some ⟨vb, vo, none⟩) 256 vC) w5 (by first | (simp [Act.eval]; done) | simp [Act.eval, Act.put]) (by first | (simp [Act.eval]; done) | simp [Act.eval, Act.put]) HR1.out ?_
      refine hK.out _ _ trivial (fun _ => ?_)
      clear hK K
      refine wpAnyH_take (i := 8) (v := .agg #[.int .i64 (t : Int), .slice (some ⟨vb, vo, none⟩) 256 vC]) rfl (by kernel_rfl) (by kernel_rfl) (by kernel_rfl) (fun _ _ _ h => h) (Or.inl ⟨by rfl, fun w' hS => ?_⟩) HS ?_
      · clear hS; go_simp
      refine wpAnyH_ready (rs := [9]) (by kernel_rfl) (by simp) ?_
      refine AllReadyH.cons rfl (fun K hK => ?_) AllReadyH.nil
      refine step_slicing1 rfl 64 0 1 (.tmp 93) rfl (.agg #[.int .i64 (t : Int), .slice (some ⟨vb, vo, none⟩) 256 vC]) (.slice (some ⟨K2, 0, none⟩) 1 1) ws (by first | (simp [Act.eval]; done) | simp [Act.eval, Act.put]) HSL.out ?_
      refine hK.out _ _ trivial (fun _ => ?_)
      clear hK K
      refine wpAnyH_ready (rs := [10]) (by kernel_rfl) (by simp) ?_
      refine AllReadyH.cons rfl (fun K hK => ?_) AllReadyH.nil
      refine step_appL rfl (.tmp 89) (.tmp 94) rfl rfl _ _ (.slice (some ⟨g, 0, none⟩) N cap) w6 (by first | (simp [Act.eval]; done) | simp [Act.eval, Act.put]) (by first | (simp [Act.eval]; done) | simp [Act.eval, Act.put]) HR2.out ?_
      refine hK.out _ _ trivial (fun _ => ?_)
      clear hK K
      refine wpAnyH_ready (rs := [11]) (by kernel_rfl) (by simp) ?_
      refine AllReadyH.cons rfl (fun K hK => ?_) AllReadyH.nil
      go_simp
      refine hK.out _ _ trivial (fun _ => ?_)
      clear hK K
      refine wpAnyH_ready (rs := [12]) (by kernel_rfl) (by simp) ?_
      refine AllReadyH.cons rfl (fun K hK => ?_) AllReadyH.nil
      go_simp
      refine hK.out _ _ trivial (fun _ => ?_)
      clear hK K
      refine wpAnyH_ready (rs := [13]) (by kernel_rfl) (by simp) ?_
      refine AllReadyH.cons rfl (fun K hK => ?_) AllReadyH.nil
      go_simp
      refine hK.out _ _ trivial (fun _ => ?_)
      clear hK K
      refine wpAnyH_done (by kernel_rfl) ?_ _
      go_wp2
      go_ret
      exact HP.out
    · refine step_appM rfl (.const (.slice none 0 0)) (.tmp 91) rfl rfl _ _ (.slice (some ⟨vb, vo, none⟩) 256 vC) w5 (by first | (simp [Act.eval]; done) | simp [Act.eval, Act.put]) (by first | (simp [Act.eval]; done) | simp [Act.eval, Act.put]) HR1.out ?_
      refine hK.out _ _ trivial (fun _ => ?_)
      clear hK K
      refine wpAnyH_take (i := 8) (v := .agg #[.int .i64 (t : Int), .slice (some ⟨vb, vo, none⟩) 256 vC]) rfl (by kernel_rfl) (by kernel_rfl) (by kernel_rfl) (fun _ _ _ h => h) (Or.inl ⟨by rfl, fun w' hS => ?_⟩) HS ?_
      · clear hS; go_simp
      refine wpAnyH_ready (rs := [4, 9]) (by kernel_rfl) (by simp) ?_
      refine AllReadyH.cons rfl (fun K hK => ?_) (AllReadyH.cons rfl (fun K hK => ?_) AllReadyH.nil)
      · go_simp
        refine hK.out _ _ trivial (fun _ => ?_)
        clear hK K
        refine wpAnyH_ready (rs := [9]) (by kernel_rfl) (by simp) ?_
        refine AllReadyH.cons rfl (fun K hK => ?_) AllReadyH.nil
        refine step_slicing1 rfl 64 0 1 (.tmp 93) rfl (.agg #[.int .i64 (t : Int), .slice (some ⟨vb, vo, none⟩) 256 vC]) (.slice (some ⟨K2, 0, none⟩) 1 1) ws (by first | (simp [Act.eval]; done) | simp [Act.eval, Act.put]) HSL.out ?_
        refine hK.out _ _ trivial (fun _ => ?_)
        clear hK K
        refine wpAnyH_ready (rs := [10]) (by kernel_rfl) (by simp) ?_
        refine AllReadyH.cons rfl (fun K hK => ?_) AllReadyH.nil
        refine step_appL rfl (.tmp 89) (.tmp 94) rfl rfl _ _ (.slice (some ⟨g, 0, none⟩) N cap) w6 (by first | (simp [Act.eval]; done) | simp [Act.eval, Act.put]) (by first | (simp [Act.eval]; done) | simp [Act.eval, Act.put]) HR2.out ?_
        refine hK.out _ _ trivial (fun _ => ?_)
        clear hK K
        refine wpAnyH_ready (rs := [11]) (by kernel_rfl) (by simp) ?_
        refine AllReadyH.cons rfl (fun K hK => ?_) AllReadyH.nil
        go_simp
        refine hK.out _ _ trivial (fun _ => ?_)
        clear hK K
        refine wpAnyH_ready (rs := [12]) (by kernel_rfl) (by simp) ?_
        refine AllReadyH.cons rfl (fun K hK => ?_) AllReadyH.nil
        go_simp
        refine hK.out _ _ trivial (fun _ => ?_)
        clear hK K
        refine wpAnyH_ready (rs := [13]) (by kernel_rfl) (by simp) ?_
        refine AllReadyH.cons rfl (fun K hK => ?_) AllReadyH.nil
        go_simp
        refine hK.out _ _ trivial (fun _ => ?_)
        clear hK K
        refine wpAnyH_done (by kernel_rfl) ?_ _
        go_wp2
        go_ret
        exact HP.out
      · refine step_slicing1 rfl 64 0 1 (.tmp 93) rfl (.agg #[.int .i64 (t : Int), .slice (some ⟨vb, vo, none⟩) 256 vC]) (.slice (some ⟨K2, 0, none⟩) 1 1) ws (by first | (simp [Act.eval]; done) | simp [Act.eval, Act.put]) HSL.out ?_
        refine hK.out _ _ trivial (fun _ => ?_)
        clear hK K
        refine wpAnyH_ready (rs := [4]) (by kernel_rfl) (by simp) ?_
        refine AllReadyH.cons rfl (fun K hK => ?_) AllReadyH.nil
        go_simp
        refine hK.out _ _ trivial (fun _ => ?_)
        clear hK K
        refine wpAnyH_ready (rs := [10]) (by kernel_rfl) (by simp) ?_
        refine AllReadyH.cons rfl (fun K hK => ?_) AllReadyH.nil
        refine step_appL rfl (.tmp 89) (.tmp 94) rfl rfl _ _ (.slice (some ⟨g, 0, none⟩) N cap) w6 (by first | (simp [Act.eval]; done) | simp [Act.eval, Act.put]) (by first | (simp [Act.eval]; done) | simp [Act.eval, Act.put]) HR2.out ?_
        refine hK.out _ _ trivial (fun _ => ?_)
        clear hK K
        refine wpAnyH_ready (rs := [11]) (by kernel_rfl) (by simp) ?_
        refine AllReadyH.cons rfl (fun K hK => ?_) AllReadyH.nil
        go_simp
        refine hK.out _ _ trivial (fun _ => ?_)
        clear hK K
        refine wpAnyH_ready (rs := [12]) (by kernel_rfl) (by simp) ?_
        refine AllReadyH.cons rfl (fun K hK => ?_) AllReadyH.nil
        go_simp
        refine hK.out _ _ trivial (fun _ => ?_)
        clear hK K
        refine wpAnyH_ready (rs := [13]) (by kernel_rfl) (by simp) ?_
        refine AllReadyH.cons rfl (fun K hK => ?_) AllReadyH.nil
        go_simp
        refine hK.out _ _ trivial (fun _ => ?_)
        clear hK K
        refine wpAnyH_done (by kernel_rfl) ?_ _
        go_wp2
        go_ret
        exact HP.out
  · have H3 := Lib.hid (HQ2.out (.slice (some ⟨b, o + 1, none⟩) r.length (cap0 - 1)) rfl (fun w' hw' => Or.inr ⟨b, o + 1, cap0 - 1, c, rfl, by omega, hw', by omega, by omega, fun i x hx => by
      rw [show o + 1 + i = o + (i + 1) by omega]
      exact hall (i + 1) x hx⟩))
    have K3 := Lib.hid (HCQ.out (.slice (some ⟨b, o + 1, none⟩) r.length (cap0 - 1)))
    have t2 : (cap0 : Int) - 1 ≠ 0 := by omega
    have t3 : (1 : Int) ≤ (cap0 : Int) := by omega
    obtain ⟨nr, hnr⟩ : ∃ nr, nr = r.length := ⟨_, rfl⟩
    rw [← hnr] at H3 K3 dm u1 hcap
    obtain ⟨B, G, L, P, Q, cG, cL, cP, cQ, V, s, X, m, lf⟩ := q
    clear h1 hc1 h2 hc2 HY HEQ hms hv hdone hall hb hsz HQ2 HCQ hn2 hnr
    go_wp2
    go_region
    go_wp2
    obtain ⟨w3, hw3⟩ : ∃ w3, w3 = (w2.setCell ⟨Q, k, none⟩ (.slice (some ⟨b, o + 1, none⟩) nr (cap0 - 1))).drew := ⟨_, rfl⟩
    obtain ⟨m', hm'⟩ : ∃ m', m' = up m k (.slice (some ⟨b, o + 1, none⟩) nr (cap0 - 1)) := ⟨_, rfl⟩
    have h3 : RefIs base F w3 ⟨B, G, L, P, Q, cG, cL, cP, cQ, V, s, X, m', lf1⟩ e3 := by rw [hw3, hm']; exact H3.out.gr ((Ch.refl _ _).drew)
    have kw3 : Ch F w w3 := by rw [hw3]; exact K3.out.drew
    rw [← hw3]
    clear hw3 hm' H3 K3 d3 dp d4 dm fq ct
    obtain ⟨wd, hwd⟩ : ∃ wd, wd = w3.drew := ⟨_, rfl⟩
    have hd : RefIs base F wd ⟨B, G, L, P, Q, cG, cL, cP, cQ, V, s, X, m', lf1⟩ e3 := by rw [hwd]; exact h3.gr ((Ch.refl _ _).drew)
    have kwd : Ch F w wd := by rw [hwd]; exact kw3.drew
    have hsd : RowV wd (.slice (some ⟨sb, so, none⟩) 256 C) 256 z := HSR.out.far kwd HSF.out
    obtain ⟨vb, vo, vC, w5, g, cap, w6, hr1, hr2, h6, hk6, z1, z2, z3⟩ := hd.push hsd (to := t) (by rw [HN3.out]; exact HTO.out) (by have := hd.XL; rw [HE3.out] at this; omega)
    have c2d : wd.cell? ⟨B, 2, none⟩ = some V := hd.cellB 2
    obtain ⟨A3, C3, hV3⟩ : ∃ A3 C3, V = .slice A3 X.length C3 := hd.vform
    obtain ⟨N, hN⟩ : ∃ N, N = X.length + 1 := ⟨_, rfl⟩
    obtain ⟨K2, hK2⟩ : ∃ K2, K2 = w5.heap.size := ⟨_, rfl⟩
    obtain ⟨ws, hws⟩ : ∃ ws, ws = w5.alloc (.cells #[.int .i64 (t : Int), .slice (some ⟨vb, vo, none⟩) 256 vC] 102) := ⟨_, rfl⟩
    have hsl := slice_wl w5 (.int .i64 (t : Int)) (.slice (some ⟨vb, vo, none⟩) 256 vC)
    rw [← hK2, ← hws] at hsl
    rw [show (⟨B, G, L, P, Q, cG, cL, cP, cQ, V, s, X, m', lf1⟩ : Rh).X.length + 1 = N from hN.symm, show (⟨B, G, L, P, Q, cG, cL, cP, cQ, V, s, X, m', lf1⟩ : Rh).V = V from rfl, ← hK2, ← hws] at hr2
    rw [show (⟨B, G, L, P, Q, cG, cL, cP, cQ, V, s, X, m', lf1⟩ : Rh).X.length + 1 = N from hN.symm, HE3.out] at h6
    rw [show (⟨B, G, L, P, Q, cG, cL, cP, cQ, V, s, X, m', lf1⟩ : Rh).X.length + 1 = N from hN.symm] at hk6
    have c2s : ws.cell? ⟨B, 2, none⟩ = some V := by rw [hws]; exact Lib.cell?_alloc_some _ z1
    change w5.cell? ⟨B, 2, none⟩ = some V at z1
    change w6.cell? ⟨B, 2, none⟩ = some V at z2
    have HP := Lib.hid (RPost.last (r := .int .i64 0) h6 (fun i hi => hi.elim Or.inl (fun e => Or.inr ⟨Nat.le_trans kwd.size e.1, by simpa [World.setCell] using e.2⟩)) HFL.out (kwd.trans hk6) HLE.out)
    have HR1 := Lib.hid hr1
    have HSL := Lib.hid hsl
    have HWD := Lib.hid hwd
    rw [hV3] at c2d z1 z2 c2s hr2
    obtain ⟨L3, hL3⟩ : ∃ L3, L3 = X.length := ⟨_, rfl⟩
    rw [← hL3] at c2d z1 z2 c2s hr2
    have HR2 := Lib.hid hr2
    clear hr1 hr2 hsl h6 hk6 hsd hd h3 kw3 kwd hwd hV3 hN hK2 hws hL3
    refine wp_region_held (S := fun _ => True) (by kernel_rfl) ?_
    change wpAnyH _ _ _ _ _ _ _ _ (World.drew _)
    rw [← HWD.out]
    have HS : (fun _ : World => True) wd := trivial
    refine wpAnyH_take (i := 0) (v := .pointer (some ⟨B, 0, none⟩)) rfl (by kernel_rfl) (by kernel_rfl) (by kernel_rfl) (fun _ _ _ h => h) (Or.inl ⟨by rfl, fun w' hS => ?_⟩) HS ?_
    · clear hS; go_simp
    refine wpAnyH_take (i := 1) (v := .pointer (some ⟨B, 0, none⟩)) rfl (by kernel_rfl) (by kernel_rfl) (by kernel_rfl) (fun _ _ _ h => h) (Or.inl ⟨by rfl, fun w' hS => ?_⟩) HS ?_
    · clear hS; go_simp
    refine wpAnyH_take (i := 2) (v := .pointer (some ⟨B, 0, none⟩)) rfl (by kernel_rfl) (by kernel_rfl) (by kernel_rfl) (fun _ _ _ h => h) (Or.inl ⟨by rfl, fun w' hS => ?_⟩) HS ?_
    · clear hS; go_simp
    refine wpAnyH_take (i := 3) (v := .pointer (some ⟨B, 2, none⟩)) rfl (by kernel_rfl) (by kernel_rfl) (by kernel_rfl) (fun _ _ _ h => h) (Or.inl ⟨by rfl, fun w' hS => ?_⟩) HS ?_
    · clear hS; go_simp
    refine wpAnyH_take (i := 5) (v := .int .i64 (t : Int)) rfl (by kernel_rfl) (by kernel_rfl) (by kernel_rfl) (fun _ _ _ h => h) (Or.inl ⟨by rfl, fun w' hS => ?_⟩) HS ?_
    · clear hS; go_simp
    refine wpAnyH_take (i := 6) (v := .slice (some ⟨sb, so, none⟩) 256 C) rfl (by kernel_rfl) (by kernel_rfl) (by kernel_rfl) (fun _ _ _ h => h) (Or.inl ⟨by rfl, fun w' hS => ?_⟩) HS ?_
    · clear hS; go_simp
    refine wpAnyH_ready (rs := [4, 7]) (by kernel_rfl) (by simp) ?_
    refine AllReadyH.cons rfl (fun K hK => ?_) (AllReadyH.cons rfl (fun K hK => ?_) AllReadyH.nil)
    · go_simp
      refine hK.out _ _ trivial (fun _ => ?_)
      clear hK K
      refine wpAnyH_ready (rs := [7]) (by kernel_rfl) (by simp) ?_
      refine AllReadyH.cons rfl (fun K hK => ?_) AllReadyH.nil
      refine step_appM rfl (.const (.slice none 0 0)) (.tmp 91) rfl rfl _ _ (.slice (some ⟨vb, vo, none⟩) 256 vC) w5 (by first | (simp [Act.eval]; done) | simp [Act.eval, Act.put]) (by first | (simp [Act.eval]; done) | simp [Act.eval, Act.put]) HR1.out ?_
      refine hK.out _ _ trivial (fun _ => ?_)
      clear hK K
      refine wpAnyH_take (i := 8) (v := .agg #[.int .i64 (t : Int), .slice (some ⟨vb, vo, none⟩) 256 vC]) rfl (by kernel_rfl) (by kernel_rfl) (by kernel_rfl) (fun _ _ _ h => h) (Or.inl ⟨by rfl, fun w' hS => ?_⟩) HS ?_
      · clear hS; go_simp
      refine wpAnyH_ready (rs := [9]) (by kernel_rfl) (by simp) ?_
      refine AllReadyH.cons rfl (fun K hK => ?_) AllReadyH.nil
      refine step_slicing1 rfl 64 0 1 (.tmp 93) rfl (.agg #[.int .i64 (t : Int), .slice (some ⟨vb, vo, none⟩) 256 vC]) (.slice (some ⟨K2, 0, none⟩) 1 1) ws (by first | (simp [Act.eval]; done) | simp [Act.eval, Act.put]) HSL.out ?_
      refine hK.out _ _ trivial (fun _ => ?_)
      clear hK K
      refine wpAnyH_ready (rs := [10]) (by kernel_rfl) (by simp) ?_
      refine AllReadyH.cons rfl (fun K hK => ?_) AllReadyH.nil
      refine step_appL rfl (.tmp 89) (.tmp 94) rfl rfl _ _ (.slice (some ⟨g, 0, none⟩) N cap) w6 (by first | (simp [Act.eval]; done) | simp [Act.eval, Act.put]) (by first | (simp [Act.eval]; done) | simp [Act.eval, Act.put]) HR2.out ?_
      refine hK.out _ _ trivial (fun _ => ?_)
      clear hK K
      refine wpAnyH_ready (rs := [11]) (by kernel_rfl) (by simp) ?_
      refine AllReadyH.cons rfl (fun K hK => ?_) AllReadyH.nil
      go_simp
      refine hK.out _ _ trivial (fun _ => ?_)
      clear hK K
      refine wpAnyH_ready (rs := [12]) (by kernel_rfl) (by simp) ?_
      refine AllReadyH.cons rfl (fun K hK => ?_) AllReadyH.nil
      go_simp
      refine hK.out _ _ trivial (fun _ => ?_)
      clear hK K
      refine wpAnyH_ready (rs := [13]) (by kernel_rfl) (by simp) ?_
      refine AllReadyH.cons rfl (fun K hK => ?_) AllReadyH.nil
      go_simp
      refine hK.out _ _ trivial (fun _ => ?_)
      clear hK K
      refine wpAnyH_done (by kernel_rfl) ?_ _
      go_wp2
      go_ret
      exact HP.out
    · refine step_appM rfl (.const (.slice none 0 0)) (.tmp 91) rfl rfl _ _ (.slice (some ⟨vb, vo, none⟩) 256 vC) w5 (by first | (simp [Act.eval]; done) | simp [Act.eval, Act.put]) (by first | (simp [Act.eval]; done) | simp [Act.eval, Act.put]) HR1.out ?_
      refine hK.out _ _ trivial (fun _ => ?_)
      clear hK K
      refine wpAnyH_take (i := 8) (v := .agg #[.int .i64 (t : Int), .slice (some ⟨vb, vo, none⟩) 256 vC]) rfl (by kernel_rfl) (by kernel_rfl) (by kernel_rfl) (fun _ _ _ h => h) (Or.inl ⟨by rfl, fun w' hS => ?_⟩) HS ?_
      · clear hS; go_simp
      refine wpAnyH_ready (rs := [4, 9]) (by kernel_rfl) (by simp) ?_
      refine AllReadyH.cons rfl (fun K hK => ?_) (AllReadyH.cons rfl (fun K hK => ?_) AllReadyH.nil)
      · go_simp
        refine hK.out _ _ trivial (fun _ => ?_)
        clear hK K
        refine wpAnyH_ready (rs := [9]) (by kernel_rfl) (by simp) ?_
        refine AllReadyH.cons rfl (fun K hK => ?_) AllReadyH.nil
        refine step_slicing1 rfl 64 0 1 (.tmp 93) rfl (.agg #[.int .i64 (t : Int), .slice (some ⟨vb, vo, none⟩) 256 vC]) (.slice (some ⟨K2, 0, none⟩) 1 1) ws (by first | (simp [Act.eval]; done) | simp [Act.eval, Act.put]) HSL.out ?_
        refine hK.out _ _ trivial (fun _ => ?_)
        clear hK K
        refine wpAnyH_ready (rs := [10]) (by kernel_rfl) (by simp) ?_
        refine AllReadyH.cons rfl (fun K hK => ?_) AllReadyH.nil
        refine step_appL rfl (.tmp 89) (.tmp 94) rfl rfl _ _ (.slice (some ⟨g, 0, none⟩) N cap) w6 (by first | (simp [Act.eval]; done) | simp [Act.eval, Act.put]) (by first | (simp [Act.eval]; done) | simp [Act.eval, Act.put]) HR2.out ?_
        refine hK.out _ _ trivial (fun _ => ?_)
        clear hK K
        refine wpAnyH_ready (rs := [11]) (by kernel_rfl) (by simp) ?_
        refine AllReadyH.cons rfl (fun K hK => ?_) AllReadyH.nil
        go_simp
        refine hK.out _ _ trivial (fun _ => ?_)
        clear hK K
        refine wpAnyH_ready (rs := [12]) (by kernel_rfl) (by simp) ?_
        refine AllReadyH.cons rfl (fun K hK => ?_) AllReadyH.nil
        go_simp
        refine hK.out _ _ trivial (fun _ => ?_)
        clear hK K
        refine wpAnyH_ready (rs := [13]) (by kernel_rfl) (by simp) ?_
        refine AllReadyH.cons rfl (fun K hK => ?_) AllReadyH.nil
        go_simp
        refine hK.out _ _ trivial (fun _ => ?_)
        clear hK K
        refine wpAnyH_done (by kernel_rfl) ?_ _
        go_wp2
        go_ret
        exact HP.out
      · refine step_slicing1 rfl 64 0 1 (.tmp 93) rfl (.agg #[.int .i64 (t : Int), .slice (some ⟨vb, vo, none⟩) 256 vC]) (.slice (some ⟨K2, 0, none⟩) 1 1) ws (by first | (simp [Act.eval]; done) | simp [Act.eval, Act.put]) HSL.out ?_
        refine hK.out _ _ trivial (fun _ => ?_)
        clear hK K
        refine wpAnyH_ready (rs := [4]) (by kernel_rfl) (by simp) ?_
        refine AllReadyH.cons rfl (fun K hK => ?_) AllReadyH.nil
        go_simp
        refine hK.out _ _ trivial (fun _ => ?_)
        clear hK K
        refine wpAnyH_ready (rs := [10]) (by kernel_rfl) (by simp) ?_
        refine AllReadyH.cons rfl (fun K hK => ?_) AllReadyH.nil
        refine step_appL rfl (.tmp 89) (.tmp 94) rfl rfl _ _ (.slice (some ⟨g, 0, none⟩) N cap) w6 (by first | (simp [Act.eval]; done) | simp [Act.eval, Act.put]) (by first | (simp [Act.eval]; done) | simp [Act.eval, Act.put]) HR2.out ?_
        refine hK.out _ _ trivial (fun _ => ?_)
        clear hK K
        refine wpAnyH_ready (rs := [11]) (by kernel_rfl) (by simp) ?_
        refine AllReadyH.cons rfl (fun K hK => ?_) AllReadyH.nil
        go_simp
        refine hK.out _ _ trivial (fun _ => ?_)
        clear hK K
        refine wpAnyH_ready (rs := [12]) (by kernel_rfl) (by simp) ?_
        refine AllReadyH.cons rfl (fun K hK => ?_) AllReadyH.nil
        go_simp
        refine hK.out _ _ trivial (fun _ => ?_)
        clear hK K
        refine wpAnyH_ready (rs := [13]) (by kernel_rfl) (by simp) ?_
        refine AllReadyH.cons rfl (fun K hK => ?_) AllReadyH.nil
        go_simp
        refine hK.out _ _ trivial (fun _ => ?_)
        clear hK K
        refine wpAnyH_done (by kernel_rfl) ?_ _
        go_wp2
        go_ret
        exact HP.out
set_option maxHeartbeats 1600000 in
set_option maxRecDepth 100000 in
theorem rwrite_any (base : Nat) (F : Nat → Prop) (q : Rh) (d : Dev) (a : Int) (sb so n C : Nat) (z : Nat → Nat) (w : World) (h : RefIs base F w q d) (hs : RowV w (.slice (some ⟨sb, so, none⟩) n C) n z) (hsf : ¬ F sb)
    (ho : d.ops ≤ 1152921504606846976) (hW : d.W.length ≤ 1048574) (hdr : ∀ a, d.drops a ≤ 1152921504606846976) :
    Calls Try.prog 44 #[.pointer (some ⟨q.B, 0, none⟩), .int .i64 a, .slice (some ⟨sb, so, none⟩) n C] w (RPost base F q.B (writeD d a n z) (.int .i64 (writeE d a n)) w) := by
  have c0 : w.cell? ⟨q.B, 0, none⟩ = some (.slice (some ⟨q.G, 0, none⟩) d.n q.cG) := h.cellB 0
  have c6 : w.cell? ⟨q.B, 6, none⟩ = some (.bool d.dead) := h.cellB 6
  have hnn := h.nn
  have hle := h.le
  have HLE := Lib.hid hle
  have HFL := Lib.hid (fun i (hi : F i) => h.low' hi)
  have HSR := Lib.hid hs
  have HSF := Lib.hid hsf
  have hn63 : n ≤ 140737488351232 := by obtain ⟨_, _, e, h1, _⟩ := hs; injection e with _ e _; omega
  by_cases hop : openE d a = 0
  · obtain ⟨hd, k, rfl, hk⟩ := openE_ok hop
    rw [hd] at c6
    have i1 : (0 : Int) ≤ (k : Int) := Int.natCast_nonneg _
    have i2 : (k : Int) < (d.n : Int) := by omega
    by_cases hn : n = 256
    · subst hn
      have HY := Lib.hid (rdies_any base F q d w h)
      unfold DiesPost at HY
      cases hy : diesB d
      · rw [hy] at HY
        have HD1 := Lib.hid (diesD_more d)
        have hdk := hdr k
        cases hcm : aimC (wr1 d) k
        · have hS := write_drop (z := z) hop hy hcm
          rw [hS.1, hS.2]
          have hpos : 0 < (wr1 d).drops k := by have := of_decide_eq_false hcm; omega
          have hpos2 : 0 < d.drops k := by have e : (wr1 d).drops k = d.drops k := by show (diesD d).drops k = _; rw [HD1.out.2.2.2]
                                           omega
          have HA := Lib.hid (show aimD (wr1 d) k = { wr1 d with drops := up (wr1 d).drops k ((wr1 d).drops k - 1) } by unfold aimD; rw [if_pos hpos])
          have HK := Lib.hid hk
          have hpz : (0 : Int) < (d.drops k : Int) := by omega
          clear hS hs hsf hdr hop hy hd hk h hcm hpos
          go_enter Try.func44, Try.ntmps44
          go_wp2_with fail
          refine HY.out.mono ?_
          rintro e w1 ⟨rfl, lf1, h1, hc1⟩
          have h2 := h1.setOps (d.ops + 1)
          rw [show ({ diesD d with ops := d.ops + 1 } : Dev) = wr1 d from rfl] at h2
          have hc2 : Ch F w (w1.setCell ⟨q.B, 8, none⟩ (.int .i64 ((d.ops + 1 : Nat) : Int))) := hc1.trans (h1.chB 8 _)
          have c8 : w1.cell? ⟨q.B, 8, none⟩ = some (.int .i64 ((diesD d).ops : Int)) := h1.cellB 8
          rw [HD1.out.2.2.1] at c8
          have f8 : w1.frozen? ⟨q.B, 8, none⟩ = false := h1.frB 8
          rw [show ((d.ops + 1 : Nat) : Int) = (d.ops : Int) + 1 by omega] at h2 hc2
          obtain ⟨w2, hw2⟩ : ∃ w2, w1.setCell ⟨q.B, 8, none⟩ (.int .i64 ((d.ops : Int) + 1)) = w2 := ⟨_, rfl⟩
          change RefIs base F (w1.setCell ⟨q.B, 8, none⟩ (.int .i64 ((d.ops : Int) + 1))) _ _ at h2
          rw [hw2] at h2 hc2
          have hn2 : (wr1 d).n = d.n := HD1.out.1
          have d3 : w2.cell? ⟨q.B, 3, none⟩ = some (.slice (some ⟨q.P, 0, none⟩) (wr1 d).n q.cP) := h2.cellB 3
          rw [hn2] at d3
          have dp : w2.cell? ⟨q.P, k, none⟩ = some (.int .i64 ((wr1 d).drops k : Int)) := h2.cellP (by rw [hn2]; exact HK.out)
          rw [show (wr1 d).drops k = d.drops k by show (diesD d).drops k = _; rw [HD1.out.2.2.2]] at dp
          have fp : w2.frozen? ⟨q.P, k, none⟩ = false := h2.drp.frozen k
          have h3 := h2.setP (a := k) ((wr1 d).drops k - 1)
          rw [← HA.out, show (((wr1 d).drops k - 1 : Nat) : Int) = (d.drops k : Int) - 1 by rw [show (wr1 d).drops k = d.drops k by show (diesD d).drops k = _; rw [HD1.out.2.2.2]]; omega] at h3
          have HP := Lib.hid (RPost.mk (r := .int .i64 0) h3 (hc2.setCell (p := ⟨q.P, k, none⟩) (Or.inl h2.fP) _) HLE.out)
          obtain ⟨B, G, L, P, Q, cG, cL, cP, cQ, V, s, X, m, lf⟩ := q
          clear h1 hc1 h2 hc2 h3 HY
          go_wp2
          go_ret
          exact HP.out
        · cases hm : (wr1 d).miss k with
          | nil => exact rwrite_nil base F q d k sb so C z w h hs hsf ho hW hk hop hy hcm hm
          | cons t r => exact rwrite_cons base F q d k sb so C z w h hs hsf ho hW hk hop hy hcm t r hm
      · have hS := write_dies (z := z) hop hy
        rw [hS.1, hS.2]
        rw [hy] at HY
        clear hS hop hy h hs
        go_enter Try.func44, Try.ntmps44
        go_wp2_with fail
        refine HY.out.mono ?_
        rintro e w1 ⟨rfl, lf1, h1, hc1⟩
        have HP := Lib.hid (RPost.mk (r := .int .i64 21) h1 hc1 HLE.out)
        clear h1 hc1
        go_wp2
        go_ret
        exact HP.out
    · have hS := write_len (z := z) hop hn
      have HP := Lib.hid (RPost.mk (r := .int .i64 1) h (Ch.refl _ w) hle)
      have t1 : ((n : Int) != 256) = true := by simp; omega
      rw [hS.1, hS.2]
      clear hS hop h hs
      go_enter Try.func44, Try.ntmps44
      go_wp2
      go_ret
      exact HP.out
  · have hS := write_bad (n := n) (z := z) hop
    have hp := RPost.mk (r := .int .i64 (openE d a)) h (Ch.refl _ w) hle
    rw [hS.1, hS.2]
    cases hd : d.dead
    · rw [hd] at c6
      have hh : hasB d a = false := by
        cases q : hasB d a
        · rfl
        · exact (hop (by unfold openE; rw [hd, q]; rfl)).elim
      have ho3 : openE d a = 3 := by unfold openE; rw [hd, hh]; rfl
      rw [ho3] at hp ⊢
      have HP := Lib.hid hp
      have hr := of_decide_eq_false hh
      clear h hop hS hs hp ho3 hh hd
      by_cases ha : a < 0
      · clear hr
        go_enter Try.func44, Try.ntmps44
        go_wp2
        go_ret
        exact HP.out
      · have ha2 : (d.n : Int) ≤ a := by omega
        clear hr
        go_enter Try.func44, Try.ntmps44
        go_wp2
        go_ret
        exact HP.out
    · rw [hd] at c6
      have ho3 : openE d a = 21 := by unfold openE; rw [hd]; rfl
      rw [ho3] at hp ⊢
      have HP := Lib.hid hp
      clear h hop hS hs hp ho3 hd
      go_enter Try.func44, Try.ntmps44
      go_wp2
      go_ret
      exact HP.out
#print axioms rwrite_any
end Go.Proofs.Ytjibfoplihaabaa
