/-
  The document's grouped (quartermasterref11), walked.
-/
import Derived.Test.YteleknojohnlbaaGreatMk37
namespace Go.Proofs.YteleknojohnlbaaGreat
open Go.RowKit
set_option linter.unusedVariables false
set_option maxRecDepth 100000
set_option linter.unusedSimpArgs false
structure PvX (w : World) (b o : Nat) (x : Pv) : Prop where
  x0 : w.cell? ⟨b, o, none⟩ = some (.int .i64 x.p.seq)
  x1 : w.cell? ⟨b, o + 1, none⟩ = some (.int .i64 x.p.ep)
  x4 : w.cell? ⟨b, o + 4, none⟩ = some (.int .i64 x.p.ix)
  x5 : w.cell? ⟨b, o + 5, none⟩ = some (.int .i64 x.p.ofn)
  x6 : w.cell? ⟨b, o + 6, none⟩ = some x.V
theorem rwV_pv {w : World} {A : Option Addr} {C : Nat} {L : List Pv} (h : RwV kdP elP w A C L) {i : Nat} {x : Pv} (hx : L[i]? = some x) : ∃ b o, A = some ⟨b, o, none⟩ ∧ PvX w b (o + i * 7) x := by
  obtain ⟨b, o, hA, hc⟩ := h.at' (by have := (List.getElem?_eq_some_iff.1 hx).1; omega)
  exact ⟨b, o, hA, hc i x hx 0 _ rfl, hc i x hx 1 _ rfl, hc i x hx 4 _ rfl, hc i x hx 5 _ rfl, hc i x hx 6 _ rfl⟩
def pvP (L : List Pv) : List Pn := L.map Pv.p
theorem pvP_len (L : List Pv) : (pvP L).length = L.length := List.length_map ..
theorem pvP_get {L : List Pv} {i : Nat} {x : Pv} (h : L[i]? = some x) : (pvP L)[i]? = some x.p := by unfold pvP; rw [List.getElem?_map, h]; rfl
structure GrpSt (sm : Pn → Int) (L : List Pv) (w : World) (fin : Tl) (ep start : Int) (D H : Nat) (wr : World) (i : Nat) (t : Tl) (v : Value) : Prop where
  le : i ≤ L.length
  var : wr.heap[D]? = some (.cells (tlC t ep v) 40 (0, 0))
  res : wr.heap[H]? = some (.cells (tlC tl0 0 (.slice none 0 0)) 40 (0, 0))
  own : ∃ M, M.map Bv.B = t.txs ∧ RwO kdB elB w wr v M ∧ M.length ≤ i
  ch : Ch (fun _ => False) w wr
  fin : endR sm ((pvP L).drop i).length ((pvP L).drop i) t = fin
  next : t.next = start + (i : Int)
section
variable {sm : Pn → Int} {L : List Pv} {w wr wx : World} {fin : Tl} {ep start : Int} {D H i : Nat} {t : Tl} {v : Value}
theorem GrpSt.gr (h : GrpSt sm L w fin ep start D H wr i t v) (k : Ch (fun _ => False) wr wx) : GrpSt sm L w fin ep start D H wx i t v :=
  ⟨h.le, (k.block D (blk_lt h.var) (fun f => f)).trans h.var, (k.block H (blk_lt h.res) (fun f => f)).trans h.res, by obtain ⟨M, q1, q2, q3⟩ := h.own; exact ⟨M, q1, q2.gr k, q3⟩, h.ch.trans k, h.fin, h.next⟩
theorem GrpSt.done (h : GrpSt sm L w fin ep start D H wr i t v) (hw : wholeR ((pvP L).drop i) = 0) : t = fin := by
  have := h.fin
  rw [endR_at, if_pos hw] at this
  exact this
theorem GrpSt.post (h : GrpSt sm L w fin ep start D H wr i t v) (hw : t = fin) (hH : w.heap.size ≤ H) : ∃ w9, StTl wr w9 H t ep v ∧ TailPost fin ep w (.returned (.agg (tlC t ep v))) w9 := by
  obtain ⟨M, q1, q2, q3⟩ := h.own
  obtain ⟨Av, Cv, hv⟩ := q2.len
  obtain ⟨w9, h9⟩ := stTl t ep h.res ⟨_, _, _, hv⟩
  exact ⟨w9, h9, _, rfl, ⟨Av, Cv, M, by rw [hw, hv], by rw [q1, hw], by rw [← hv]; exact q2.set h9.ch h.res (by decide) (by decide)⟩, h.ch.new (h9.ch.mono fun i _ hi => by rw [hi]; exact hH)⟩
structure GrpMid (sm : Pn → Int) (L : List Pv) (w : World) (fin : Tl) (ep start : Int) (D H : Nat) (wr : World) (i f : Nat) (t : Tl) (v r : Value) (g cap Q : Nat) (w7 : World) (s2 c2 : Int) : Prop where
  run : (Builtin.append_ #[ /-t-/37, /-t-/37] /-t-/37 #[v, .slice (some ⟨wr.heap.size, 0, none⟩) 1 1]).run Tryz.prog (wr.alloc (.cells #[r] /-t-/24)) = .ok (.slice (some ⟨g, 0, none⟩) (Q + 1) cap) w7
  y0 : w7.cell? ⟨D, 0, none⟩ = some v
  f0 : w7.frozen? ⟨D, 0, none⟩ = false
  y1 : w7.cell? ⟨D, 1, none⟩ = some (.int .i64 t.next)
  f1 : w7.frozen? ⟨D, 1, none⟩ = false
  y2 : w7.cell? ⟨D, 2, none⟩ = some (.int .i64 t.chain)
  f2 : w7.frozen? ⟨D, 2, none⟩ = false
  gD : g ≠ D
  ch7 : Ch (fun _ => False) w w7
  fin : ∃ t' v', GrpSt sm L w fin ep start D H (((w7.setCell ⟨D, 0, none⟩ (.slice (some ⟨g, 0, none⟩) (Q + 1) cap)).setCell ⟨D, 1, none⟩ (.int .i64 s2)).setCell ⟨D, 2, none⟩ (.int .i64 c2)) (i + f) t' v'
theorem grp_mid {f : Nat} {r : Value} {J : List Nat} {Av : Option Addr} {Cv Q : Nat} {s2 c2 : Int} (h : GrpSt sm L w fin ep start D H wr i t (.slice Av Q Cv)) (hi : i < L.length) (hl : L.length ≤ 1000) (hw : wholeR ((pvP L).drop i) = f) (hf : 0 < f) (hf2 : i + f ≤ L.length) (hJ : J = joinP (((pvP L).drop i).take f)) (hr : RowN w wr r J.length (Cod.litZ J)) (hJB : ∀ c ∈ J, c < 256) (hlD : w.heap.size ≤ D) (hHD : H ≠ D) (hs2 : s2 = t.next + (f : Int)) (hc2 : c2 = lastS sm ((pvP L).drop i) f t.chain) :
    ∃ g cap w7, GrpMid sm L w fin ep start D H wr i f t (.slice Av Q Cv) r g cap Q w7 s2 c2 := by
  obtain ⟨M, hM, hRM, hMl⟩ := h.own
  have hQ : M.length = Q := by
    obtain ⟨_, _, e⟩ := hRM.len
    injection e with _ e _
    exact e.symm
  subst hQ
  obtain ⟨A9, C9, hr9⟩ := hr.len
  obtain ⟨g, cap, w7, hrun, hr7, hc7⟩ := hRM.app kdB_ok (x := ⟨r, J⟩) (elB_ok ⟨_, _, _, hr9⟩) (show ByN elB w wr ⟨r, J⟩ from ⟨hr, hJB⟩) (by omega) h.ch.size
  have hD7 : ¬ (Value.slice Av M.length Cv).ownBlock = some D := fun e => by
    obtain ⟨_, c2, hc2⟩ := own_at hRM.own e
    exact cells_ne hc2 h.var (by decide) rfl
  have hv7 := (hc7.block D (blk_lt h.var) hD7).trans h.var
  have hH7 : ¬ (Value.slice Av M.length Cv).ownBlock = some H := fun e => by
    obtain ⟨_, c2, hc2⟩ := own_at hRM.own e
    exact cells_ne hc2 h.res (by decide) rfl
  have hres7 := (hc7.block H (blk_lt h.res) hH7).trans h.res
  have hcw7 : Ch (fun _ => False) w w7 := h.ch.new (hc7.mono fun i _ hi => (own_at hRM.own hi).1)
  have hgD : g ≠ D := fun e => by
    obtain ⟨_, c2, hc2⟩ := own_at hr7.own (i := g) rfl
    rw [e] at hc2
    exact cells_ne hc2 hv7 (by decide) rfl
  have k8 : Ch (fun j => j = D) w7 (((w7.setCell ⟨D, 0, none⟩ (.slice (some ⟨g, 0, none⟩) (M.length + 1) cap)).setCell ⟨D, 1, none⟩ (.int .i64 s2)).setCell ⟨D, 2, none⟩ (.int .i64 c2)) :=
    (((Ch.refl (fun j => j = D) w7).setCell (p := ⟨D, 0, none⟩) (Or.inl rfl) _).setCell (p := ⟨D, 1, none⟩) (Or.inl rfl) _).setCell (p := ⟨D, 2, none⟩) (Or.inl rfl) _
  have hfin := h.fin
  rw [endR_at, hw, if_neg (by omega), List.drop_drop] at hfin
  refine ⟨g, cap, w7, hrun, blk_cell hv7, blk_frozen hv7, blk_cell hv7, blk_frozen hv7, blk_cell hv7, blk_frozen hv7, hgD, hcw7, ⟨t.txs ++ [J], s2, c2⟩, .slice (some ⟨g, 0, none⟩) (M.length + 1) cap, ⟨hf2, ?_, ?_, ⟨M ++ [⟨r, J⟩], ?_, ?_, ?_⟩, ?_, ?_, ?_⟩⟩
  · exact blk_set (i := 2) (blk_set (i := 1) (blk_set (i := 0) hv7 _) _) _
  · exact (k8.block H (blk_lt hres7) hHD).trans hres7
  · rw [List.map_append, hM]; rfl
  · exact hr7.set k8 hv7 (by decide) (by decide)
  · rw [List.length_append]; simp only [List.length_cons, List.length_nil]; omega
  · exact hcw7.new (k8.mono fun j _ e => by rw [e]; exact hlD)
  · rw [← hfin]
    congr 1
    unfold stepT
    rw [hw, ← hJ, hs2, hc2]
  · show s2 = _
    rw [hs2, h.next]; omega
end
theorem okAt_drop {P : List Pn} {i c : Nat} {f : Int} {p : Pn} (h : P[i + c]? = some p) : okAt (P.drop i) f c = (decide (p.ix = (c : Int)) && decide (p.ofn = f)) := okAt_some (by rw [List.getElem?_drop]; exact h)
theorem whole_drop {P : List Pn} {i f : Nat} {p : Pn} (h : P[i]? = some p) (hf : p.ofn = (f : Int)) : wholeR (P.drop i) = if f ≤ P.length - i ∧ ∀ c, c < f → okAt (P.drop i) (f : Int) c = true then f else 0 := by
  rw [whole_some (p := p) (by rw [List.getElem?_drop]; exact h), hf, List.length_drop]
  rfl
set_option maxHeartbeats 25600000 in
theorem r11grp_any (A : Option Addr) (C : Nat) (L : List Pv) (SA : Option Addr) (SC : Nat) (q : Nat → Int) (w : World) (start chain : Int) (sm : Pn → Int) (h : RwV kdP elP w A C L) (hs : IntV w (.slice SA L.length SC) L.length q) (hq : ∀ i x, L[i]? = some x → q i = sm x.p) (hf : ∀ x ∈ L, (1 ≤ x.p.ofn ∧ x.p.ofn ≤ 64) ∧ x.p.B.length ≤ 200) (hsq : ∀ (i : Nat) (x : Pv), L[i]? = some x → x.p.seq = start + (i : Int)) (hl : L.length ≤ 1000) (hst : 0 ≤ start ∧ start ≤ 4294967295) :
    Calls Tryz.prog 59 #[.slice A L.length C, .slice SA L.length SC, .int .i64 start, .int .i64 chain] w (TailPost (tailR sm (pvP L) start chain) (epR (pvP L)) w) := by
  obtain ⟨w1, H, hR⟩ := boxR w (tlC tl0 0 (.slice none 0 0)) 40
  obtain ⟨wz, wx, D, hV⟩ := varTl ⟨[], start, chain⟩ 0 slV_nil w1
  have hcx := hR.ch.trans hV.ch
  have hHD : H ≠ D := by have := blk_lt hR.cx; have := hV.sz; omega
  have hlD : w.heap.size ≤ D := by rw [← hV.sz]; exact hR.ch.size
  have hlH : w.heap.size ≤ H := by rw [← hR.sz]; exact Nat.le_refl _
  obtain ⟨ep, hep⟩ : ∃ ep, ep = epR (pvP L) := ⟨_, rfl⟩
  obtain ⟨fin, hfin⟩ : ∃ fin, fin = tailR sm (pvP L) start chain := ⟨_, rfl⟩
  obtain ⟨w4, hw4⟩ : ∃ w4, w4 = if 0 < L.length then wx.setCell ⟨D, 3, none⟩ (.int .i64 ep) else wx := ⟨_, rfl⟩
  have HST := Lib.hid (show GrpSt sm L w fin ep start D H w4 0 ⟨[], start, chain⟩ (.slice none 0 0) by
    have hresx := (hV.ch.block H (blk_lt hR.cx) (fun f => f)).trans hR.cx
    have k4 : Ch (fun i => i = D) wx w4 := by
      rw [hw4]; split
      · exact Ch.setCell (S := fun i => i = D) (Ch.refl _ wx) (p := ⟨D, 3, none⟩) (Or.inl rfl) _
      · exact Ch.refl _ _
    refine ⟨Nat.zero_le _, ?_, (k4.block H (blk_lt hresx) hHD).trans hresx, ⟨[], rfl, RwO.start _ _ _ _, Nat.zero_le _⟩, hcx.new (k4.mono fun i _ hi => by rw [hi]; exact hlD), by rw [List.drop_zero, hfin]; rfl, by show start = _; omega⟩
    rw [hw4]
    split
    · exact blk_set (i := 3) hV.cx (.int .i64 ep)
    · rename_i q0
      have : ep = 0 := by
        rw [hep]
        have : L = [] := List.length_eq_zero_iff.1 (by omega)
        rw [this]; rfl
      rw [this]
      exact hV.cx)
  have HBT := Lib.hid (built_tl start chain w1)
  have HR := Lib.hid hR
  have HV := Lib.hid hV
  have HLO := Lib.hid (And.intro hHD (And.intro hlD hlH))
  have HH := Lib.hid h
  have HS := Lib.hid hs
  have HQ := Lib.hid hq
  have HF := Lib.hid hf
  have HSQ := Lib.hid hsq
  have HL := Lib.hid hl
  have HEP := Lib.hid hep
  have HFI := Lib.hid hfin
  have HBD := Lib.hid hst
  obtain ⟨n, hn⟩ : ∃ n, n = L.length := ⟨_, rfl⟩
  have HN := Lib.hid hn
  have hn1 : n ≤ 1000 := by omega
  rw [← hfin, ← hep]
  rw [← hn] at hw4 HL HS ⊢
  have hn0 : (0 : Int) ≤ (n : Int) := Int.natCast_nonneg _
  have HCX := Lib.hid hcx
  have hloop : ∃ T : Prop, T := ⟨True, trivial⟩
  by_cases h0 : 0 < n
  · rw [if_pos h0] at hw4
    obtain ⟨x, hx⟩ : ∃ x, L[n - 1]? = some x := ⟨L[n - 1]'(by omega), List.getElem?_eq_getElem _⟩
    obtain ⟨b, o, rfl, hlx⟩ := rwV_pv (h.gr hcx) hx
    obtain ⟨N, hN⟩ : ∃ N, N = n - 1 := ⟨_, rfl⟩
    have e1 : (n : Int) - 1 = (N : Int) := by omega
    have e2 : wrap64 ((n : Int) - 1) = (N : Int) := by rw [e1]; exact IntWalk.wrap64_in _ ⟨by omega, by omega⟩
    have i1 : (0 : Int) ≤ (N : Int) := Int.natCast_nonneg _
    have i2 : (N : Int) < (n : Int) := by omega
    have i3 : (0 : Int) < (n : Int) := by omega
    have hxe : x.p.ep = ep := by
      rw [hep]; unfold epR
      rw [pvP_len, ← hn, pvP_get hx]
    have c1 := hlx.x1
    rw [hxe] at c1
    have d3 : wx.cell? ⟨D, 3, none⟩ = some (.int .i64 0) := blk_cell hV.cx
    have f3 : wx.frozen? ⟨D, 3, none⟩ = false := blk_frozen hV.cx
    have HW4 := Lib.hid hw4
    clear hR hV hx hlx hn hN e1 hep hfin hw4 h hs hq hf hsq hl hst hcx hHD hlD hlH hxe hloop h0
    go_enter Tryz.func59, Tryz.ntmps59
    go_wp2_with (first
      | ((with_reducible refine wpList_isOp (.alloc 40) rfl ?_); refine wpList_making _ w1 rfl 40 rfl (tlC tl0 0 (.slice none 0 0)) H (zero_tl _) (by exact HR.out.sz) (by exact HR.out.al) ?_)
      | ((with_reducible refine wpList_isOp (.build 40 #[(1, .tmp 15), (2, .tmp 16)]) rfl ?_); refine wpList_building _ rfl 40 #[(1, .tmp 15), (2, .tmp 16)] rfl _ (by exact HBT.out) ?_)
      | ((with_reducible refine wpList_isOp (.alloc 40) rfl ?_); refine wpList_making _ wz rfl 40 rfl (tlC tl0 0 (.slice none 0 0)) D (zero_tl _) (by exact HV.out.sz) (by exact HV.out.al) ?_)
      | ((with_reducible refine wpList_isOp (.store 40 (.tmp 9) (.tmp 17)) rfl ?_); refine wpList_storing _ wx rfl 40 (.tmp 9) (.tmp 17) rfl (.agg (tlC ⟨[], start, chain⟩ 0 (.slice none 0 0))) ⟨D, 0, none⟩ rfl rfl (by exact HV.out.st) ?_)
      | fail)
    rw [← HW4.out]
    clear c1 d3 f3 e2 i1 i2 i3
    have HBO := Lib.hid (show b < w.heap.size from by
      obtain ⟨x, hx⟩ : ∃ x, L[0]? = some x := ⟨L[0]'(by rw [← HN.out]; omega), List.getElem?_eq_getElem _⟩
      obtain ⟨b', o', hA, hlx⟩ := rwV_pv HH.out hx
      injection hA with hA
      injection hA with hA _
      rw [hA]
      exact World.block_lt_of_cell? _ _ hlx.x0)
    obtain ⟨sb, so, rfl, hsc⟩ := HS.out.at (by omega)
    have HSC := Lib.hid hsc
    have HSB := Lib.hid (show sb < w.heap.size from World.block_lt_of_cell? _ _ (hsc 0 (by omega)))
    clear hsc
    go_loopw [10, 11, 12, 13, 14] (fun i _ _ _ _ wr => ∃ (k : Nat) (t : Tl) (v : Value), i = .int .i64 k ∧ Hid (GrpSt sm L w fin ep start D H wr k t v)) (fun i _ _ _ _ _ => n - (intOf i).toNat)
    case atStart => exact ⟨0, _, _, rfl, HST⟩
    case round =>
      obtain ⟨k, t, v, rfl, HG⟩ := hrel
      clear HST
      have hkle : k ≤ n := by rw [HN.out]; exact HG.out.le
      obtain ⟨Mv, _, hMv, _⟩ := HG.out.own
      obtain ⟨Av, Cv, rfl⟩ := hMv.len
      obtain ⟨Qv, hQv⟩ : ∃ Q, Q = Mv.length := ⟨_, rfl⟩
      rw [← hQv] at HG
      clear hMv hQv
      have HLD := Lib.hid (load_tl HG.out.var)
      have i1 : (0 : Int) ≤ (k : Int) := Int.natCast_nonneg _
      by_cases hlt : k < n
      · have i2 : (k : Int) < (n : Int) := by omega
        obtain ⟨x, hx⟩ : ∃ x, L[k]? = some x := ⟨L[k]'(by rw [← HN.out]; omega), List.getElem?_eq_getElem _⟩
        obtain ⟨b', o', hA, hlx⟩ := rwV_pv (HH.out.gr HG.out.ch) hx
        injection hA with hA
        injection hA with hb ho
        subst hb ho
        obtain ⟨⟨f1, f2⟩, f3⟩ := HF.out x (List.mem_of_getElem? hx)
        obtain ⟨f, hfe⟩ : ∃ f, f = x.p.ofn.toNat := ⟨_, rfl⟩
        have e1 : x.p.ofn = (f : Int) := by omega
        have c5 := hlx.x5
        rw [e1] at c5
        have HWH := Lib.hid (whole_drop (pvP_get hx) e1)
        obtain ⟨kf, hkf⟩ : ∃ kf, kf = k + f := ⟨_, rfl⟩
        have e3 : wrap64 ((k : Int) + (f : Int)) = (kf : Int) := by rw [IntWalk.wrap64_in _ ⟨by omega, by omega⟩]; omega
        have hf1 : 1 ≤ f := by omega
        have hf64 : f ≤ 64 := by omega
        have i0 : (0 : Int) ≤ (f : Int) := by omega
        by_cases hov : kf ≤ n
        case neg =>
          have t1 : decide ((n : Int) < (k : Int) + (f : Int)) = true := by simp; omega
          obtain ⟨w9, h9, hp⟩ := HG.out.post (HG.out.done (by rw [HWH.out, if_neg (by rw [pvP_len, ← HN.out]; intro q; omega)])) HLO.out.2.2
          have H9 := Lib.hid h9
          have HP := Lib.hid hp
          clear hx hlx f1 f2 f3 hfe e1 hov h9 hp hkf
          go_wp2_with (first
            | ((with_reducible refine wpList_isOp (.load 40 (.tmp 9)) rfl ?_); refine wpList_loading _ rfl 40 (.tmp 9) rfl (.agg (tlC t ep (.slice Av Qv Cv))) ⟨D, 0, none⟩ rfl (by exact HLD.out) ?_)
            | ((with_reducible refine wpList_isOp (.store 40 (.tmp 8) (.tmp 44)) rfl ?_); refine wpList_storing _ w9 rfl 40 (.tmp 8) (.tmp 44) rfl (.agg (tlC t ep (.slice Av Qv Cv))) ⟨H, 0, none⟩ rfl rfl (by exact H9.out.st) ?_)
            | fail)
          exact bodyPost_ret (v := .agg (tlC t ep (.slice Av Qv Cv))) (results_cell_row Tryz.results59 _ _ H 40 (tlC t ep (.slice Av Qv Cv)) (0, 0) _ rfl H9.out.cx Tryz.underlying40 rfl size_tl) rfl HP.out
        have t1 : decide ((n : Int) < (k : Int) + (f : Int)) = false := by simp; omega
        have HX := Lib.hid hx
        have HOV := Lib.hid hov
        have HKF := Lib.hid hkf
        obtain ⟨J, hJ⟩ : ∃ J, J = joinP (((pvP L).drop k).take f) := ⟨_, rfl⟩
        have HJ := Lib.hid hJ
        have HPL := Lib.hid (show (pvP L).length = n by rw [pvP_len, HN.out])
        have HJB := Lib.hid (show ∀ c ∈ J, c < 256 by
          rw [hJ]
          intro c hc
          obtain ⟨p, hp, hcp⟩ := List.mem_flatMap.1 hc
          obtain ⟨y, hy, rfl⟩ := List.mem_map.1 (List.mem_of_mem_drop (List.mem_of_mem_take hp))
          exact (HH.out.rows y hy).2 c hcp)
        have HJM := Lib.hid (show ∀ m, m ≤ f → (joinP ((((pvP L).drop k).take f).take m)).length ≤ 200 * m from fun m hm => by
          refine Nat.le_trans (joinP_len (L := (((pvP L).drop k).take f).take m) fun p hp => ?_) (Nat.mul_le_mul_left _ (List.length_take_le _ _))
          obtain ⟨y, hy, rfl⟩ := List.mem_map.1 (List.mem_of_mem_drop (List.mem_of_mem_take (List.mem_of_mem_take hp)))
          exact (HF.out y hy).2)
        have HO0 := Lib.hid (show OutSt wr (Cod.litZ J) (.slice none 0 0) (joinP ((((pvP L).drop k).take f).take 0)).length wr from ⟨World.ownsRow_nil _ _ _ _, Ch.refl _ wr⟩)
        clear hx hlx f1 f2 f3 hfe e1 hov hJ hkf
        go_wp2_with fail
        clear c5 t1 e3
        go_loopw [12, 13, 14] (fun tx j _ wr2 => ∃ (m : Nat), m ≤ f ∧ j = .int .i64 m ∧ Hid (OutSt wr (Cod.litZ J) tx (joinP ((((pvP L).drop k).take f).take m)).length wr2) ∧ Hid (∀ c, c < m → okAt ((pvP L).drop k) (f : Int) c = true)) (fun _ j _ _ => f - (intOf j).toNat)
        case atStart => exact ⟨0, Nat.zero_le _, rfl, HO0, Lib.hid fun c hc => absurd hc (Nat.not_lt_zero c)⟩
        case round =>
          obtain ⟨m, hm, rfl, HOS, HOK⟩ := hrel
          clear HO0
          have HGX := Lib.hid (HG.out.gr HOS.out.ch)
          by_cases hmf : m < f
          · have j1 : (0 : Int) ≤ (m : Int) := Int.natCast_nonneg _
            have j2 : (m : Int) < (f : Int) := by omega
            obtain ⟨km, hkm⟩ : ∃ km, km = k + m := ⟨_, rfl⟩
            have hkmn : km < n := by have := HOV.out; have := HKF.out; omega
            have j3 : (0 : Int) ≤ (k : Int) + (m : Int) := by omega
            have j4 : (k : Int) + (m : Int) < (n : Int) := by omega
            obtain ⟨y, hy⟩ : ∃ y, L[km]? = some y := ⟨L[km]'(by rw [← HN.out]; omega), List.getElem?_eq_getElem _⟩
            have hrdL := HH.out.gr HGX.out.ch
            obtain ⟨b', o', hA, hld⟩ := pv_load hrdL hy
            injection hA with hA
            injection hA with hb ho
            subst hb ho
            have hrow : RowV _ y.V y.p.B.length (Cod.litZ y.p.B) := (hrdL.rows y (List.mem_of_getElem? hy)).1
            obtain ⟨yA, yC, hyV, _⟩ := id hrow
            obtain ⟨wz2, wx2, G, hV2⟩ := varPc y.p ⟨_, _, _, hyV⟩ _
            rw [hyV] at hld hrow hV2
            obtain ⟨nb, hnb⟩ : ∃ nb, nb = y.p.B.length := ⟨_, rfl⟩
            rw [← hnb] at hld hV2
            obtain ⟨O, hO⟩ : ∃ O, O = o + km * 7 := ⟨_, rfl⟩
            rw [← hO] at hld
            have HO := Lib.hid (show o + (k + m) * 7 = O by rw [hO, hkm])
            have HLD2 := Lib.hid hld
            have HV2 := Lib.hid hV2
            obtain ⟨z0, z1, z2, z3, z4, z5, z6⟩ := pc_x hV2.cx
            have HGY := Lib.hid (HGX.out.gr hV2.ch)
            have HLD3 := Lib.hid (load_tl HGY.out.var)
            have hPy : (pvP L)[k + m]? = some y.p := by rw [← hkm]; exact pvP_get hy
            have HYK := Lib.hid (okAt_drop (f := (f : Int)) hPy)
            have hQm : (((pvP L).drop k).take f)[m]? = some y.p := by rw [List.getElem?_take, if_pos hmf, List.getElem?_drop]; exact hPy
            have HQM := Lib.hid hQm
            have HROW := Lib.hid (hrow.gr hV2.ch)
            have HNB := Lib.hid hnb
            have HY200 := Lib.hid (HF.out y (List.mem_of_getElem? hy)).2
            have HMF := Lib.hid hmf
            have HNO := Lib.hid (show okAt ((pvP L).drop k) (f : Int) m = false → ∃ w9, StTl wx2 w9 H t ep (.slice Av Qv Cv) ∧ TailPost fin ep w (.returned (.agg (tlC t ep (.slice Av Qv Cv)))) w9 from fun hno => HGY.out.post (HGY.out.done (by
              rw [HWH.out, if_neg]
              rintro ⟨_, q⟩
              have := q m HMF.out
              rw [hno] at this
              cases this)) HLO.out.2.2)
            clear hy hrdL hld hrow hyV hV2 hnb hO hPy hQm hkm hkmn z0 z1 z2 z3
            by_cases q1 : y.p.ix = (m : Int)
            case neg =>
              have t1 : (y.p.ix != (m : Int)) = true := by simpa using q1
              obtain ⟨w9, h9, hp⟩ := HNO.out (by rw [HYK.out, decide_eq_false q1]; rfl)
              have H9 := Lib.hid h9
              have HP := Lib.hid hp
              clear q1 h9 hp
              go_wp2_with (first
                | ((with_reducible refine wpList_isOp (.load 26 (.tmp 54)) rfl ?_); refine wpList_loading _ rfl 26 (.tmp 54) rfl (.agg (pcC y.p (.slice yA nb yC))) ⟨b, O, none⟩ (by have hO := HO.out; go_simp) (by exact HLD2.out) ?_)
                | ((with_reducible refine wpList_isOp (.alloc 26) rfl ?_); refine wpList_making _ wz2 rfl 26 rfl (pcC pn0 (.slice none 0 0)) G (zero_pc _) (by exact HV2.out.sz) (by exact HV2.out.al) ?_)
                | ((with_reducible refine wpList_isOp (.store 26 (.tmp 14) (.tmp 55)) rfl ?_); refine wpList_storing _ wx2 rfl 26 (.tmp 14) (.tmp 55) rfl (.agg (pcC y.p (.slice yA nb yC))) ⟨G, 0, none⟩ rfl rfl (by exact HV2.out.st) ?_)
                | ((with_reducible refine wpList_isOp (.load 40 (.tmp 9)) rfl ?_); refine wpList_loading _ rfl 40 (.tmp 9) rfl (.agg (tlC t ep (.slice Av Qv Cv))) ⟨D, 0, none⟩ rfl (by exact HLD3.out) ?_)
                | ((with_reducible refine wpList_isOp (.store 40 (.tmp 8) (.tmp 66)) rfl ?_); refine wpList_storing _ w9 rfl 40 (.tmp 8) (.tmp 66) rfl (.agg (tlC t ep (.slice Av Qv Cv))) ⟨H, 0, none⟩ rfl rfl (by exact H9.out.st) ?_)
                | fail)
              exact bodyPost_ret (v := .agg (tlC t ep (.slice Av Qv Cv))) (results_cell_row Tryz.results59 _ _ H 40 (tlC t ep (.slice Av Qv Cv)) (0, 0) _ rfl H9.out.cx Tryz.underlying40 rfl size_tl) rfl HP.out
            have t1 : (y.p.ix != (m : Int)) = false := by simpa using q1
            by_cases q2 : y.p.ofn = (f : Int)
            case neg =>
              have t2 : (y.p.ofn != (f : Int)) = true := by simpa using q2
              obtain ⟨w9, h9, hp⟩ := HNO.out (by rw [HYK.out, decide_eq_false q2, Bool.and_false])
              have H9 := Lib.hid h9
              have HP := Lib.hid hp
              clear q1 q2 h9 hp
              go_wp2_with (first
                | ((with_reducible refine wpList_isOp (.load 26 (.tmp 54)) rfl ?_); refine wpList_loading _ rfl 26 (.tmp 54) rfl (.agg (pcC y.p (.slice yA nb yC))) ⟨b, O, none⟩ (by have hO := HO.out; go_simp) (by exact HLD2.out) ?_)
                | ((with_reducible refine wpList_isOp (.alloc 26) rfl ?_); refine wpList_making _ wz2 rfl 26 rfl (pcC pn0 (.slice none 0 0)) G (zero_pc _) (by exact HV2.out.sz) (by exact HV2.out.al) ?_)
                | ((with_reducible refine wpList_isOp (.store 26 (.tmp 14) (.tmp 55)) rfl ?_); refine wpList_storing _ wx2 rfl 26 (.tmp 14) (.tmp 55) rfl (.agg (pcC y.p (.slice yA nb yC))) ⟨G, 0, none⟩ rfl rfl (by exact HV2.out.st) ?_)
                | ((with_reducible refine wpList_isOp (.load 40 (.tmp 9)) rfl ?_); refine wpList_loading _ rfl 40 (.tmp 9) rfl (.agg (tlC t ep (.slice Av Qv Cv))) ⟨D, 0, none⟩ rfl (by exact HLD3.out) ?_)
                | ((with_reducible refine wpList_isOp (.store 40 (.tmp 8) (.tmp 66)) rfl ?_); refine wpList_storing _ w9 rfl 40 (.tmp 8) (.tmp 66) rfl (.agg (tlC t ep (.slice Av Qv Cv))) ⟨H, 0, none⟩ rfl rfl (by exact H9.out.st) ?_)
                | fail)
              exact bodyPost_ret (v := .agg (tlC t ep (.slice Av Qv Cv))) (results_cell_row Tryz.results59 _ _ H 40 (tlC t ep (.slice Av Qv Cv)) (0, 0) _ rfl H9.out.cx Tryz.underlying40 rfl size_tl) rfl HP.out
            have t2 : (y.p.ofn != (f : Int)) = false := by simpa using q2
            have HOK2 := Lib.hid (show okAt ((pvP L).drop k) (f : Int) m = true by rw [HYK.out, decide_eq_true q1, decide_eq_true q2]; rfl)
            obtain ⟨v2, w3, hrun, hs3⟩ := (HOS.out.gr HV2.out.ch).app HROW.out (fun c hc => by rw [HJ.out]; exact join_at HQM.out hc) (by have h1 := HJM.out m (by omega); have h2 := HY200.out; omega)
            have hle : (joinP ((((pvP L).drop k).take f).take m)).length + y.p.B.length = (joinP ((((pvP L).drop k).take f).take (m + 1))).length := by
              rw [List.take_add_one, HQM.out]
              show _ = (joinP (_ ++ [y.p])).length
              rw [joinP_snoc, List.length_append]
            rw [hle] at hs3
            rw [← HNB.out] at hrun
            have HRUN := Lib.hid hrun
            have HS3 := Lib.hid hs3
            have HOKN := Lib.hid (show ∀ c, c < m + 1 → okAt ((pvP L).drop k) (f : Int) c = true from fun c hc => by
              by_cases e : c = m
              · rw [e]; exact HOK2.out
              · exact HOK.out c (by omega))
            clear q1 q2 hrun hs3 hle
            go_wp2_with (first
              | ((with_reducible refine wpList_isOp (.load 26 (.tmp 54)) rfl ?_); refine wpList_loading _ rfl 26 (.tmp 54) rfl (.agg (pcC y.p (.slice yA nb yC))) ⟨b, O, none⟩ (by have hO := HO.out; go_simp) (by exact HLD2.out) ?_)
              | ((with_reducible refine wpList_isOp (.alloc 26) rfl ?_); refine wpList_making _ wz2 rfl 26 rfl (pcC pn0 (.slice none 0 0)) G (zero_pc _) (by exact HV2.out.sz) (by exact HV2.out.al) ?_)
              | ((with_reducible refine wpList_isOp (.store 26 (.tmp 14) (.tmp 55)) rfl ?_); refine wpList_storing _ wx2 rfl 26 (.tmp 14) (.tmp 55) rfl (.agg (pcC y.p (.slice yA nb yC))) ⟨G, 0, none⟩ rfl rfl (by exact HV2.out.st) ?_)
              | (at_builtin; refine wpList_app_of _ rfl (.tmp 67) (.tmp 69) rfl rfl _ _ v2 w3 rfl rfl HRUN.out ?_)
              | fail)
            go_roundw
            case rel => exact ⟨m + 1, HMF.out, by go_num, HS3, HOKN⟩
            case measure => have := HMF.out; simp [intOf]; omega
          · obtain rfl : m = f := by omega
            have hQl : (((pvP L).drop k).take m).take m = ((pvP L).drop k).take m := by rw [List.take_take, Nat.min_self]
            have hwf : wholeR ((pvP L).drop k) = m := by
              rw [HWH.out, if_pos ⟨by rw [HPL.out]; have := HOV.out; have := HKF.out; omega, HOK.out⟩]
            have hown := HOS.out.own
            rw [hQl, ← HJ.out] at hown
            obtain ⟨TA, TC, rfl⟩ := own_slice hown
            have hrN := RowN.own (w := w) hown (by have := HJM.out m (Nat.le_refl _); rw [hQl, ← HJ.out] at this; omega) (fun c _ => Cod.litZ_b HJB.out c) HG.out.ch.size
            obtain ⟨x2, hx2⟩ : ∃ x, L[kf - 1]? = some x := ⟨L[kf - 1]'(by have := HOV.out; have := HKF.out; rw [← HN.out]; omega), List.getElem?_eq_getElem _⟩
            have hs2 := HSQ.out _ _ hx2
            have hq2 := HQ.out _ _ hx2
            have hseq : x2.p.seq + 1 = t.next + (m : Int) := by rw [HGX.out.next, hs2]; have := HKF.out; omega
            have hlast : q (kf - 1) = lastS sm ((pvP L).drop k) m t.chain := by
              unfold lastS
              have : ((pvP L).drop k)[m - 1]? = some x2.p := by
                rw [List.getElem?_drop, show k + (m - 1) = kf - 1 by have := HKF.out; omega]
                exact pvP_get hx2
              rw [this, hq2]
            obtain ⟨s2, hs2e⟩ : ∃ s, s = x2.p.seq + 1 := ⟨_, rfl⟩
            obtain ⟨g, cap, w7, hmid⟩ := grp_mid (c2 := q (kf - 1)) (s2 := s2) HGX.out (by rw [← HN.out]; exact hlt) (by rw [← HN.out]; exact hn1) hwf (by omega) (by rw [← HN.out, ← HKF.out]; exact HOV.out) HJ.out hrN HJB.out HLO.out.2.1 HLO.out.1 (hs2e.trans hseq) hlast
            obtain ⟨b', o', hA, hlx2⟩ := rwV_pv (HH.out.gr hmid.ch7) hx2
            injection hA with hA
            injection hA with hb ho
            subst hb ho
            have hkm1 : kf - 1 = k + m - 1 := by rw [HKF.out]
            rw [hkm1] at hlx2
            have c0 := hlx2.x0
            have c1 := hmid.ch7.cell (HSC.out (kf - 1) (by have := HOV.out; have := HKF.out; omega)) (fun f => f)
            rw [hkm1] at c1
            have b1 := HBD.out
            have e5 : wrap64 (x2.p.seq + 1) = s2 := by rw [hs2e]; exact IntWalk.wrap64_in _ ⟨by rw [hs2]; omega, by rw [hs2]; have := HOV.out; omega⟩
            have hk1 : 1 ≤ k + m := by omega
            have hkn : k + m ≤ n := by have := HOV.out; have := HKF.out; omega
            have j1 : (0 : Int) ≤ (k : Int) + (m : Int) - 1 := by omega
            have j2 : (k : Int) + (m : Int) - 1 < (n : Int) := by omega
            have gne : b ≠ D := by have := HBO.out; have := HLO.out.2.1; omega
            have gne2 : D ≠ b := fun e => gne e.symm
            have sne : sb ≠ D := by have := HSB.out; have := HLO.out.2.1; omega
            have sne2 : D ≠ sb := fun e => sne e.symm
            obtain ⟨Q1, hQ1⟩ : ∃ Q1, Q1 = Qv + 1 := ⟨_, rfl⟩
            have y0 := hmid.y0
            have f0 := hmid.f0
            have y1 := hmid.y1
            have f1 := hmid.f1
            have y2 := hmid.y2
            have f2 := hmid.f2
            have yv := (tl_cells HGX.out.var).1
            have HRUN := Lib.hid hmid.run
            have HMID := Lib.hid hmid.fin
            rw [← hQ1] at HRUN HMID
            obtain ⟨qv, hqv⟩ : ∃ qv, qv = q (kf - 1) := ⟨_, rfl⟩
            rw [← hqv] at HMID
            rw [← hkm1, ← hqv, hkm1] at c1
            have HKN := Lib.hid (And.intro hkn hk1)
            clear hqv hQ1 hmid hlx2 hkm1 b1 hs2e hs2 hq2 hseq hlast hx2 hown hrN hwf hQl hkn
            go_wp2_with (first | (at_builtin; refine wpList_appB _ rfl (.tmp 75) (.tmp 77) rfl rfl _ _ (.slice (some ⟨g, 0, none⟩) Q1 cap) w7 rfl rfl (by exact HRUN.out) ?_) | fail)
            go_roundw
            case rel =>
              obtain ⟨t', v', hfin⟩ := HMID.out
              exact ⟨k + m, by go_num, t', v', Lib.hid hfin⟩
            case measure => have := HKN.out; simp [intOf]; omega
      · obtain rfl : k = n := by omega
        obtain ⟨w9, h9, hp⟩ := HG.out.post (HG.out.done (by rw [List.drop_eq_nil_of_le (by rw [pvP_len, HN.out]; exact Nat.le_refl _)]; rfl)) HLO.out.2.2
        have H9 := Lib.hid h9
        have HP := Lib.hid hp
        clear h9 hp
        go_wp2_with (first
          | ((with_reducible refine wpList_isOp (.load 40 (.tmp 9)) rfl ?_); refine wpList_loading _ rfl 40 (.tmp 9) rfl (.agg (tlC t ep (.slice Av Qv Cv))) ⟨D, 0, none⟩ rfl (by exact HLD.out) ?_)
          | ((with_reducible refine wpList_isOp (.store 40 (.tmp 8) (.tmp 94)) rfl ?_); refine wpList_storing _ w9 rfl 40 (.tmp 8) (.tmp 94) rfl (.agg (tlC t ep (.slice Av Qv Cv))) ⟨H, 0, none⟩ rfl rfl (by exact H9.out.st) ?_)
          | fail)
        exact bodyPost_ret (v := .agg (tlC t ep (.slice Av Qv Cv))) (results_cell_row Tryz.results59 _ _ H 40 (tlC t ep (.slice Av Qv Cv)) (0, 0) _ rfl H9.out.cx Tryz.underlying40 rfl size_tl) rfl HP.out
  · rw [if_neg h0] at hw4
    obtain rfl : n = 0 := by omega
    rw [hw4] at HST
    obtain ⟨w9, h9, hp⟩ := HST.out.post (HST.out.done (by rw [List.drop_eq_nil_of_le (by rw [pvP_len, ← hn]; exact Nat.le_refl _)]; rfl)) hlH
    have H9 := Lib.hid h9
    have HP := Lib.hid hp
    have HLD := Lib.hid (load_tl HST.out.var)
    clear hR hV hn hep hfin hw4 h hs hq hf hsq hl hst hcx hHD hlD hlH hloop h0 h9 hp
    go_enter Tryz.func59, Tryz.ntmps59
    go_wp2_with (first
      | ((with_reducible refine wpList_isOp (.alloc 40) rfl ?_); refine wpList_making _ w1 rfl 40 rfl (tlC tl0 0 (.slice none 0 0)) H (zero_tl _) (by exact HR.out.sz) (by exact HR.out.al) ?_)
      | ((with_reducible refine wpList_isOp (.build 40 #[(1, .tmp 15), (2, .tmp 16)]) rfl ?_); refine wpList_building _ rfl 40 #[(1, .tmp 15), (2, .tmp 16)] rfl _ (by exact HBT.out) ?_)
      | ((with_reducible refine wpList_isOp (.alloc 40) rfl ?_); refine wpList_making _ wz rfl 40 rfl (tlC tl0 0 (.slice none 0 0)) D (zero_tl _) (by exact HV.out.sz) (by exact HV.out.al) ?_)
      | ((with_reducible refine wpList_isOp (.store 40 (.tmp 9) (.tmp 17)) rfl ?_); refine wpList_storing _ wx rfl 40 (.tmp 9) (.tmp 17) rfl (.agg (tlC ⟨[], start, chain⟩ 0 (.slice none 0 0))) ⟨D, 0, none⟩ rfl rfl (by exact HV.out.st) ?_)
      | fail)
    go_loopw [10] (fun i wr => i = .int .i64 0 ∧ wr = wx) (fun _ _ => 0)
    case atStart => exact ⟨rfl, rfl⟩
    case round =>
      obtain ⟨rfl, rfl⟩ := hrel
      go_wp2_with (first
        | ((with_reducible refine wpList_isOp (.load 40 (.tmp 9)) rfl ?_); refine wpList_loading _ rfl 40 (.tmp 9) rfl (.agg (tlC ⟨[], start, chain⟩ ep (.slice none 0 0))) ⟨D, 0, none⟩ rfl (by exact HLD.out) ?_)
        | ((with_reducible refine wpList_isOp (.store 40 (.tmp 8) (.tmp 94)) rfl ?_); refine wpList_storing _ w9 rfl 40 (.tmp 8) (.tmp 94) rfl (.agg (tlC ⟨[], start, chain⟩ ep (.slice none 0 0))) ⟨H, 0, none⟩ rfl rfl (by exact H9.out.st) ?_)
        | fail)
      exact bodyPost_ret (v := .agg (tlC ⟨[], start, chain⟩ ep (.slice none 0 0))) (results_cell_row Tryz.results59 _ _ H 40 (tlC ⟨[], start, chain⟩ ep (.slice none 0 0)) (0, 0) _ rfl H9.out.cx Tryz.underlying40 rfl size_tl) rfl HP.out
end Go.Proofs.YteleknojohnlbaaGreat
