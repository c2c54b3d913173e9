/-
  ring.tail, walked: what a log tells by what was taken.
-/
import Derived.Test.YteleknojohnlbaaGreatMc27
import Derived.StillTailTactics
namespace Go.Proofs.YteleknojohnlbaaGreat
open Go.RowKit
set_option linter.unusedVariables false
set_option maxRecDepth 100000
structure Tl where
  txs : List (List Nat)
  next : Int
  chain : Int
def lastS (sm : Pn → Int) (P : List Pn) (n : Nat) (c : Int) : Int := match P[n - 1]? with | some p => sm p | none => c
def stepT (sm : Pn → Int) (P : List Pn) (t : Tl) : Tl := ⟨t.txs ++ [joinP (P.take (wholeR P))], t.next + (wholeR P : Int), lastS sm P (wholeR P) t.chain⟩
def endR (sm : Pn → Int) : Nat → List Pn → Tl → Tl
  | 0, _, t => t
  | f + 1, P, t => if wholeR P = 0 then t else endR sm f (P.drop (wholeR P)) (stepT sm P t)
theorem endR_more {sm : Pn → Int} : ∀ (f : Nat) (P : List Pn) (t : Tl), P.length ≤ f → endR sm (f + 1) P t = endR sm f P t
  | 0, P, t, h => by
    have : P = [] := List.length_eq_zero_iff.1 (by omega)
    subst this; rfl
  | f + 1, P, t, h => by
    show (if wholeR P = 0 then t else endR sm (f + 1) _ _) = (if wholeR P = 0 then t else endR sm f _ _)
    split
    · rfl
    · rename_i q
      exact endR_more f _ _ (by rw [List.length_drop]; omega)
def tailR (sm : Pn → Int) (P : List Pn) (start chain : Int) : Tl := endR sm P.length P ⟨[], start, chain⟩
theorem endR_at {sm : Pn → Int} {P : List Pn} {t : Tl} : endR sm P.length P t = if wholeR P = 0 then t else endR sm (P.drop (wholeR P)).length (P.drop (wholeR P)) (stepT sm P t) := by
  have hw := whole_le P
  by_cases h : wholeR P = 0
  · rw [if_pos h]
    cases hl : P.length with
    | zero => rfl
    | succ n => show (if wholeR P = 0 then t else _) = t; rw [if_pos h]
  · rw [if_neg h]
    have more : ∀ (k : Nat) (Q : List Pn) (u : Tl), endR sm (Q.length + k) Q u = endR sm Q.length Q u := fun k => by
      induction k with
      | zero => exact fun _ _ => rfl
      | succ k ih => exact fun Q u => (endR_more (Q.length + k) Q u (by omega)).trans (ih Q u)
    obtain ⟨n, hn⟩ : ∃ n, P.length = n + 1 := ⟨P.length - 1, by omega⟩
    rw [hn]
    show (if wholeR P = 0 then t else endR sm n _ _) = _
    rw [if_neg h]
    have := more (n - (P.drop (wholeR P)).length) (P.drop (wholeR P)) (stepT sm P t)
    rw [show (P.drop (wholeR P)).length + (n - (P.drop (wholeR P)).length) = n by rw [List.length_drop]; omega] at this
    exact this
def epR (P : List Pn) : Int := match P[P.length - 1]? with | some p => p.ep | none => 0
def tlC (t : Tl) (ep : Int) (v : Value) : Array Value := #[v, .int .i64 t.next, .int .i64 t.chain, .int .i64 ep]
theorem size_tl : (Tryz.prog.info? 40).map (·.size) = some 4 := by kernel_rfl
def tl0 : Tl := ⟨[], 0, 0⟩
theorem zero_tl (w : World) : (zeroValue 40).run Tryz.prog w = .ok (.agg (tlC tl0 0 (.slice none 0 0))) w := by kernel_rfl
theorem built_tl (s c : Int) (w : World) : (Instr.build 40 #[(1, .int .i64 s), (2, .int .i64 c)]).run Tryz.prog w = .ok (.agg (tlC ⟨[], s, c⟩ 0 (.slice none 0 0))) w := run_build w _ _ _ (by kernel_rfl)
theorem one_tl (t : Tl) (ep : Int) {v : Value} (h : SlV v) : (tlC t ep v).all (·.oneCell') = true := by obtain ⟨A, n, C, rfl⟩ := h; unfold tlC; simp [Value.oneCell']
theorem varTl (t : Tl) (ep : Int) {v : Value} (hV : SlV v) (w : World) : ∃ wz wx H, VarR w wz wx H (tlC tl0 0 (.slice none 0 0)) (tlC t ep v) 40 :=
  ⟨_, w.alloc (.cells (tlC t ep v) 40), w.heap.size, rfl, rfl, run_storeVar_new (P := Tryz.prog) w _ _ _ size_tl rfl (one_tl t ep hV), heap_alloc_new _ _, (Ch.refl _ w).alloc _ _⟩
structure StTl (w w1 : World) (H : Nat) (t : Tl) (ep : Int) (v : Value) : Prop where
  st : (storeVar 40 ⟨H, 0, none⟩ (.agg (tlC t ep v))).run Tryz.prog w = .ok () w1
  cx : w1.heap[H]? = some (.cells (tlC t ep v) 40 (0, 0))
  ch : Ch (fun j => j = H) w w1
theorem stTl {w : World} {H : Nat} {a : Tl} {e0 : Int} {U : Value} (t : Tl) (ep : Int) {v : Value} (h : w.heap[H]? = some (.cells (tlC a e0 U) 40 (0, 0))) (hV : SlV v) : ∃ w1, StTl w w1 H t ep v :=
  ⟨_, run_storeVar_row w H _ _ (tlC a e0 U) (tlC t ep v) h size_tl rfl (one_tl t ep hV), setRow_heap w H (tlC a e0 U) _ _ (0, 0) h, (Ch.refl (fun j => j = H) w).setRow (g := H) (Or.inl rfl) _⟩
theorem load_tl {w : World} {H : Nat} {t : Tl} {ep : Int} {v : Value} (h : w.heap[H]? = some (.cells (tlC t ep v) 40 (0, 0))) : (loadVar 40 ⟨H, 0, none⟩).run Tryz.prog w = .ok (.agg (tlC t ep v)) w :=
  run_loadVar_row w H _ _ (tlC t ep v) (0, 0) _ h Tryz.underlying40 rfl (show _ = some 4 by kernel_rfl)
def TailV (w w' : World) (t : Tl) (ep : Int) (V : Value) : Prop := ∃ A C M, V = .agg (tlC t ep (.slice A M.length C)) ∧ M.map Bv.B = t.txs ∧ RwO kdB elB w w' (.slice A M.length C) M
def TailPost (t : Tl) (ep : Int) (w : World) (e : Ending) (w' : World) : Prop := ∃ V, e = .returned V ∧ TailV w w' t ep V ∧ Ch (fun _ => False) w w'
structure TailSt (sm : Pn → Int) (L : List Lk) (w : World) (fin : Tl) (ep bound : Int) (D H : Nat) (wr : World) (A' : Option Addr) (C' : Nat) (L' : List Lk) (t : Tl) (v : Value) : Prop where
  rd : RwV kdL elL w A' C' L'
  mem : ∀ x ∈ L', x ∈ L
  var : wr.heap[D]? = some (.cells (tlC t ep v) 40 (0, 0))
  res : wr.heap[H]? = some (.cells (tlC tl0 0 (.slice none 0 0)) 40 (0, 0))
  own : ∃ M, M.map Bv.B = t.txs ∧ RwO kdB elB w wr v M ∧ M.length + L'.length ≤ L.length
  ch : Ch (fun _ => False) w wr
  fin : endR sm L'.length (lnP L') t = fin
  lowD : w.heap.size ≤ D
  b1 : 0 ≤ t.next
  b2 : t.next + (L'.length : Int) ≤ bound
theorem lnP_drop (L : List Lk) (n : Nat) : lnP (L.drop n) = (lnP L).drop n := by unfold lnP; rw [List.map_drop]
theorem lnP_take (L : List Lk) (n : Nat) : lnP (L.take n) = (lnP L).take n := by unfold lnP; rw [List.map_take]
theorem lnP_len (L : List Lk) : (lnP L).length = L.length := List.length_map _
theorem ep_last {L : List Lk} {x : Lk} (h : L[L.length - 1]? = some x) : epR (lnP L) = x.p.ep := by
  unfold epR
  rw [lnP_len]
  unfold lnP
  rw [List.getElem?_map, h]; rfl
structure MidW (L : List Lk) (w : World) (ep : Int) (D H : Nat) (J : List Nat) (M : List Bv) (t : Tl) (wr wx : World) (v2 : Value) (M2 : List Bv) : Prop where
  var : wx.heap[D]? = some (.cells (tlC t ep v2) 40 (0, 0))
  res : wx.heap[H]? = some (.cells (tlC tl0 0 (.slice none 0 0)) 40 (0, 0))
  txs : M2.map Bv.B = M.map Bv.B ++ [J]
  own : RwO kdB elB w wx v2 M2
  ch : Ch (fun _ => False) w wx
structure MidR (L : List Lk) (w : World) (ep : Int) (D H : Nat) (J : List Nat) (M : List Bv) (t : Tl) (wr w6 w7 : World) (v r : Value) (Q g cap : Nat) : Prop where
  y6 : w6.cell? ⟨D, 0, none⟩ = some v
  run : (Builtin.append_ #[ /-t-/37, /-t-/37] /-t-/37 #[v, .slice (some ⟨w6.heap.size, 0, none⟩) 1 1]).run Tryz.prog (w6.alloc (.cells #[r] /-t-/24)) = .ok (.slice (some ⟨g, 0, none⟩) (Q + 1) cap) w7
  y7 : w7.cell? ⟨D, 0, none⟩ = some v
  f7 : w7.frozen? ⟨D, 0, none⟩ = false
  fin : (M ++ [(⟨r, J⟩ : Bv)]).length = Q + 1 ∧ MidW L w ep D H J M t wr (w7.setCell ⟨D, 0, none⟩ (.slice (some ⟨g, 0, none⟩) (Q + 1) cap)) (.slice (some ⟨g, 0, none⟩) (Q + 1) cap) (M ++ [(⟨r, J⟩ : Bv)])
theorem tail_mid {sm : Pn → Int} {L L' : List Lk} {w wr w6 : World} {fin t : Tl} {ep bound : Int} {D H C' Cv rC : Nat} {A' Av rA : Option Addr} {J : List Nat} {M : List Bv} (HS : TailSt sm L w fin ep bound D H wr A' C' L' t (.slice Av M.length Cv))
    (HRM : RwO kdB elB w wr (.slice Av M.length Cv) M) (HM : M.map Bv.B = t.txs) (hr : w6.ownsRow wr.drew.heap.size /-t-/5 1 (.slice rA J.length rC) J.length (bytesL J.length (Cod.litZ J))) (hc6 : Ch (fun _ => False) wr.drew w6) (hJ : J.length ≤ 1000000) (hJB : ∀ c ∈ J, c < 256) (hMl : M.length ≤ 1048576) (hHD : H < D) :
    ∃ g cap w7, MidR L w ep D H J M t wr w6 w7 (.slice Av M.length Cv) (.slice rA J.length rC) M.length g cap := by
  have hc6' : Ch (fun _ => False) wr w6 := (Ch.refl (fun _ => False) wr).drew.trans hc6
  have hrow : RowN w w6 (.slice rA J.length rC) J.length (Cod.litZ J) := RowN.own (w := w) hr hJ (fun c _ => Cod.litZ_b hJB c) (HS.ch.drew).size
  have hcw6 := HS.ch.trans hc6'
  obtain ⟨g, cap, w7, hrun, hr7, hc7⟩ := (HRM.gr hc6').app kdB_ok (x := ⟨.slice rA J.length rC, J⟩) (elB_ok ⟨_, _, _, rfl⟩) (show ByN elB w w6 ⟨.slice rA J.length rC, J⟩ from ⟨hrow, hJB⟩) hMl hcw6.size
  have hv6 := (hc6'.block D (blk_lt HS.var) (fun f => f)).trans HS.var
  have hD7 : ¬ (Value.slice Av M.length Cv).ownBlock = some D := fun e => by
    obtain ⟨_, c2, hc2⟩ := own_at (HRM.gr hc6').own e
    exact cells_ne hc2 hv6 (by decide) rfl
  have hv7 := (hc7.block D (blk_lt hv6) hD7).trans hv6
  have hres6 := (hc6'.block H (blk_lt HS.res) (fun f => f)).trans HS.res
  have hH7 : ¬ (Value.slice Av M.length Cv).ownBlock = some H := fun e => by
    obtain ⟨_, c2, hc2⟩ := own_at (HRM.gr hc6').own e
    exact cells_ne hc2 hres6 (by decide) rfl
  have hres7 := (hc7.block H (blk_lt hres6) hH7).trans hres6
  have hcw7 : Ch (fun _ => False) w w7 := hcw6.new (hc7.mono fun i _ hi => (own_at HRM.own hi).1)
  have k8 : Ch (fun i => i = D) w7 (w7.setCell ⟨D, 0, none⟩ (.slice (some ⟨g, 0, none⟩) (M.length + 1) cap)) := Ch.setCell (S := fun i => i = D) (Ch.refl _ w7) (p := ⟨D, 0, none⟩) (Or.inl rfl) _
  refine ⟨g, cap, w7, blk_cell hv6, hrun, blk_cell hv7, blk_frozen hv7, by simp, blk_set (i := 0) hv7 _, (k8.block H (blk_lt hres7) (by omega)).trans hres7, by rw [List.map_append]; rfl, hr7.set k8 hv7 (by decide) (by decide), hcw7.new (k8.mono fun i hi e => ?_)⟩
  rw [e]
  exact HS.lowD
theorem step_app_of {ops : Array Oper} {o : Oper} {a : Act} {w : World} {K : Act → World → Prop} {Q : Exit → Act → World → Prop} {E : Prop} (S : TypeId) (hg : o.guard = none) (s x : Operand)
    (hop : o.op = Op.call { callee := Callee.builtin Builtin.append, args := #[s, x], argTypes := #[S, S] }) (hty : o.type = S) (sv xv v' : Value) (w' : World) (hs : a.eval s = sv) (hx : a.eval x = xv)
    (hrun : (Builtin.append_ #[S, S] S #[sv, xv]).run Tryz.prog w = .ok v' w') (hK : K (a.put o.dst v') w') : if Region.wanted o (yielded ops a.tmps) = true then Oper.wp Tryz.prog o a w K Q else E := by
  have hw : Region.wanted o (yielded ops a.tmps) = true := by simp [Region.wanted, hg]
  rw [if_pos hw]
  unfold Oper.wp
  simp only [execOp, hop, hty, resolve, invoke, builtin, Sem.run_bind, Sem.run_pure, Result.andThen_ok, List.map_toArray, List.map_cons, List.map_nil, hs, hx, hrun]
  exact hK
set_option maxHeartbeats 6400000 in
theorem rtail_none (A : Option Addr) (C : Nat) (w : World) (start chain : Int) : Calls Tryz.prog 55 #[.slice A 0 C, .int .i64 start, .int .i64 chain] w (TailPost ⟨[], start, chain⟩ 0 w) := by
  obtain ⟨w1, H, hR⟩ := boxR w (tlC tl0 0 (.slice none 0 0)) 40
  obtain ⟨wz, wx, D, hV⟩ := varTl ⟨[], start, chain⟩ 0 slV_nil w1
  have HW := Lib.hid (rwhole_any A C [] wx (RwV.none _ _ _ _) (fun x hx => by cases hx) (by decide))
  have hx := (hV.ch.block H (blk_lt hR.cx) (fun f => f)).trans hR.cx
  have HBT := Lib.hid (built_tl start chain w1)
  have HLX := Lib.hid (fun (w2 : World) (k : Ch (fun _ => False) wx w2) => load_tl ((k.block D (blk_lt hV.cx) (fun f => f)).trans hV.cx))
  have HXX := Lib.hid (fun (w2 : World) (k : Ch (fun _ => False) wx w2) => (k.block H (blk_lt hx) (fun f => f)).trans hx)
  have HC := Lib.hid (hR.ch.trans hV.ch)
  have HR := Lib.hid hR
  have HV := Lib.hid hV
  clear hR hV hx
  go_enter Tryz.func55, Tryz.ntmps55
  go_wp2_with (first
    | ((with_reducible refine wpList_isOp (.alloc 40) rfl ?_); refine wpList_making _ w1 rfl 40 rfl (tlC tl0 0 (.slice none 0 0)) H (zero_tl _) (by exact HR.out.sz) (by exact HR.out.al) ?_)
    | ((with_reducible refine wpList_isOp (.build 40 #[(1, .tmp 9), (2, .tmp 10)]) rfl ?_); refine wpList_building _ rfl 40 #[(1, .tmp 9), (2, .tmp 10)] rfl _ (by exact HBT.out) ?_)
    | ((with_reducible refine wpList_isOp (.alloc 40) rfl ?_); refine wpList_making _ wz rfl 40 rfl (tlC tl0 0 (.slice none 0 0)) D (zero_tl _) (by exact HV.out.sz) (by exact HV.out.al) ?_)
    | ((with_reducible refine wpList_isOp (.store 40 (.tmp 7) (.tmp 11)) rfl ?_); refine wpList_storing _ wx rfl 40 (.tmp 7) (.tmp 11) rfl (.agg (tlC ⟨[], start, chain⟩ 0 (.slice none 0 0))) ⟨D, 0, none⟩ rfl rfl (by exact HV.out.st) ?_)
    | fail)
  refine HW.out.mono ?_
  rintro e w3 ⟨rfl, hc3⟩
  rw [show (wholeR (lnP []) : Int) = 0 from rfl]
  obtain ⟨w4, h4⟩ := stTl ⟨[], start, chain⟩ 0 (HXX.out w3 hc3) slV_nil
  have HLD := Lib.hid (HLX.out w3 hc3)
  have H4 := Lib.hid h4
  have HFIN := Lib.hid (show TailPost ⟨[], start, chain⟩ 0 w (.returned (.agg (tlC ⟨[], start, chain⟩ 0 (.slice none 0 0)))) w4 from
    ⟨_, rfl, ⟨none, 0, [], rfl, rfl, RwO.start _ _ _ _⟩, (HC.out.trans hc3).new (h4.ch.mono fun i _ hi => by rw [hi, ← HR.out.sz]; exact Nat.le_refl _)⟩)
  clear hc3 h4
  go_wp2
  go_loopw [0, 8] (fun a k wr => a = .slice A 0 C ∧ k = .int .i64 0 ∧ wr = w3) (fun _ _ _ => 0)
  case atStart => exact ⟨rfl, rfl, rfl⟩
  case round =>
    obtain ⟨rfl, rfl, rfl⟩ := hrel
    go_wp2_with (first
      | ((with_reducible refine wpList_isOp (.load 40 (.tmp 7)) rfl ?_); refine wpList_loading _ rfl 40 (.tmp 7) rfl (.agg (tlC ⟨[], start, chain⟩ 0 (.slice none 0 0))) ⟨D, 0, none⟩ rfl (by exact HLD.out) ?_)
      | ((with_reducible refine wpList_isOp (.store 40 (.tmp 6) (.tmp 54)) rfl ?_); refine wpList_storing _ w4 rfl 40 (.tmp 6) (.tmp 54) rfl (.agg (tlC ⟨[], start, chain⟩ 0 (.slice none 0 0))) ⟨H, 0, none⟩ rfl rfl (by exact H4.out.st) ?_)
      | fail)
    exact bodyPost_ret (v := .agg (tlC ⟨[], start, chain⟩ 0 (.slice none 0 0))) (results_cell_row Tryz.results55 _ _ H 40 (tlC ⟨[], start, chain⟩ 0 (.slice none 0 0)) (0, 0) _ rfl H4.out.cx Tryz.underlying40 rfl size_tl) rfl HFIN.out
set_option maxHeartbeats 25600000 in
theorem rtail_some (A : Option Addr) (C : Nat) (L : List Lk) (w : World) (start chain : Int) (sm : Pn → Int) (h : RwV kdL elL w A C L) (hf : ∀ x ∈ L, (1 ≤ x.p.ofn ∧ x.p.ofn ≤ 64) ∧ x.p.B.length ≤ 200 ∧ x.sum = sm x.p) (hl : L.length ≤ 1000) (h0 : 0 < L.length)
    (hs : 0 ≤ start ∧ start ≤ 4294967295) : Calls Tryz.prog 55 #[.slice A L.length C, .int .i64 start, .int .i64 chain] w (TailPost (tailR sm (lnP L) start chain) (epR (lnP L)) w) := by
  obtain ⟨w1, H, hR⟩ := boxR w (tlC tl0 0 (.slice none 0 0)) 40
  obtain ⟨wz, wx, D, hV⟩ := varTl ⟨[], start, chain⟩ 0 slV_nil w1
  have hcx := hR.ch.trans hV.ch
  obtain ⟨x, hx⟩ : ∃ x, L[L.length - 1]? = some x := ⟨L[L.length - 1]'(by omega), List.getElem?_eq_getElem _⟩
  obtain ⟨b, o, rfl, hlx⟩ := rwV_lk (h.gr hcx) hx
  have HEP := Lib.hid (ep_last hx)
  obtain ⟨n, hn⟩ : ∃ n, n = L.length := ⟨_, rfl⟩
  obtain ⟨N, hN⟩ : ∃ N, N = L.length - 1 := ⟨_, rfl⟩
  have e1 : (n : Int) - 1 = (N : Int) := by omega
  have e2 : wrap64 ((n : Int) - 1) = (N : Int) := by rw [e1]; exact IntWalk.wrap64_in _ ⟨by omega, by omega⟩
  have i1 : (0 : Int) ≤ (N : Int) := Int.natCast_nonneg _
  have i2 : (N : Int) < (n : Int) := by omega
  have i3 : (0 : Int) < (n : Int) := by omega
  rw [← hN] at hlx
  have c1 := hlx.x1
  obtain ⟨ep, hep⟩ : ∃ ep, ep = x.p.ep := ⟨_, rfl⟩
  rw [← hep] at c1 HEP
  obtain ⟨w4, hw4⟩ : ∃ w4, w4 = wx.setCell ⟨D, 3, none⟩ (.int .i64 ep) := ⟨_, rfl⟩
  have kset : Ch (fun i => i = D) wx w4 := by rw [hw4]; exact Ch.setCell (S := fun i => i = D) (Ch.refl _ wx) (p := ⟨D, 3, none⟩) (Or.inl rfl) _
  have hDs : w.heap.size ≤ D := by rw [← hV.sz]; exact hR.ch.size
  have hc4 : Ch (fun _ => False) w w4 := hcx.new (kset.mono fun i _ hi => by rw [hi]; exact hDs)
  have hv4 : w4.heap[D]? = some (.cells (tlC ⟨[], start, chain⟩ ep (.slice none 0 0)) 40 (0, 0)) := by rw [hw4]; exact blk_set (i := 3) hV.cx (.int .i64 ep)
  have hH4 := (kset.block H (blk_lt ((hV.ch.block H (blk_lt hR.cx) (fun f => f)).trans hR.cx)) (by have := blk_lt hR.cx; have := hV.sz; omega)).trans ((hV.ch.block H (blk_lt hR.cx) (fun f => f)).trans hR.cx)
  have d3 : wx.cell? ⟨D, 3, none⟩ = some (.int .i64 0) := blk_cell hV.cx
  have f3 : wx.frozen? ⟨D, 3, none⟩ = false := blk_frozen hV.cx
  have HST := Lib.hid (show TailSt sm L w (tailR sm (lnP L) start chain) ep (start + 1000) D H w4 (some ⟨b, o, none⟩) C L ⟨[], start, chain⟩ (.slice none 0 0) from
    ⟨h, fun x hx => hx, hv4, hH4, ⟨[], rfl, RwO.start _ _ _ _, by simp⟩, hc4, by unfold tailR; rw [lnP_len], hDs, hs.1, by show start + _ ≤ _; omega⟩)
  have HWH := Lib.hid (fun (A' : Option Addr) (C' : Nat) (L' : List Lk) (wr : World) (q : RwV kdL elL w A' C' L') (qm : ∀ x ∈ L', x ∈ L) (k : Ch (fun _ => False) w wr) (ql : L'.length ≤ 1000) => rwhole_any A' C' L' wr (q.gr k) (fun x hx => (hf x (qm x hx)).1) ql)
  have hxH := (hV.ch.block H (blk_lt hR.cx) (fun f => f)).trans hR.cx
  have HBT := Lib.hid (built_tl start chain w1)
  have HXH := Lib.hid (show w1.heap[H]? = some (.cells (tlC tl0 0 (.slice none 0 0)) 40 (0, 0)) from hR.cx)
  have HHD := Lib.hid (show H < D ∧ w.heap.size ≤ H from ⟨by rw [← hV.sz]; exact blk_lt hR.cx, by rw [← hR.sz]; exact Nat.le_refl _⟩)
  have HF := Lib.hid hf
  have HR := Lib.hid hR
  have HV := Lib.hid hV
  have HLN := Lib.hid (show L.length ≤ 1000 from hl)
  have HNL := Lib.hid hn
  have HW0 := Lib.hid (HWH.out (some ⟨b, o, none⟩) C L w4 h (fun x hx => hx) hc4 hl)
  have HBD := Lib.hid hs
  rw [← hn] at HW0 ⊢
  have HW4 := Lib.hid hw4
  clear hR hV hx hlx hn hN e1 hep kset hc4 hv4 hxH h hf hl h0 hcx hs hw4 hDs
  go_enter Tryz.func55, Tryz.ntmps55
  go_wp2_with (first
    | ((with_reducible refine wpList_isOp (.alloc 40) rfl ?_); refine wpList_making _ w1 rfl 40 rfl (tlC tl0 0 (.slice none 0 0)) H (zero_tl _) (by exact HR.out.sz) (by exact HR.out.al) ?_)
    | ((with_reducible refine wpList_isOp (.build 40 #[(1, .tmp 9), (2, .tmp 10)]) rfl ?_); refine wpList_building _ rfl 40 #[(1, .tmp 9), (2, .tmp 10)] rfl _ (by exact HBT.out) ?_)
    | ((with_reducible refine wpList_isOp (.alloc 40) rfl ?_); refine wpList_making _ wz rfl 40 rfl (tlC tl0 0 (.slice none 0 0)) D (zero_tl _) (by exact HV.out.sz) (by exact HV.out.al) ?_)
    | ((with_reducible refine wpList_isOp (.store 40 (.tmp 7) (.tmp 11)) rfl ?_); refine wpList_storing _ wx rfl 40 (.tmp 7) (.tmp 11) rfl (.agg (tlC ⟨[], start, chain⟩ 0 (.slice none 0 0))) ⟨D, 0, none⟩ rfl rfl (by exact HV.out.st) ?_)
    | fail)
  rw [← HW4.out]
  refine HW0.out.mono ?_
  rintro e w5 ⟨rfl, hc5⟩
  have HST5 := Lib.hid (show TailSt sm L w (tailR sm (lnP L) start chain) ep (start + 1000) D H w5 (some ⟨b, o, none⟩) C L ⟨[], start, chain⟩ (.slice none 0 0) from
    ⟨HST.out.rd, HST.out.mem, (hc5.block D (blk_lt HST.out.var) (fun f => f)).trans HST.out.var, (hc5.block H (blk_lt HST.out.res) (fun f => f)).trans HST.out.res, by obtain ⟨M, q1, q2, q3⟩ := HST.out.own; exact ⟨M, q1, q2.gr hc5, q3⟩, HST.out.ch.trans hc5, HST.out.fin, HST.out.lowD, HST.out.b1, HST.out.b2⟩)
  clear hc5
  go_wp2
  go_loopw [0, 8] (fun a k wr => ∃ A' C' L' t v, a = .slice A' L'.length C' ∧ k = .int .i64 (wholeR (lnP L') : Int) ∧ Hid (TailSt sm L w (tailR sm (lnP L) start chain) ep (start + 1000) D H wr A' C' L' t v)) (fun a _ _ => lenV a)
  case atStart => exact ⟨_, _, L, _, _, by rw [HNL.out], rfl, HST5⟩
  case round =>
    obtain ⟨A', C', L', t, v, rfl, rfl, HS⟩ := hrel
    have hKn := whole_le (lnP L')
    rw [lnP_len] at hKn
    have hfe := HS.out.fin
    rw [← lnP_len L', endR_at] at hfe
    obtain ⟨K, hKd⟩ : ∃ K, K = wholeR (lnP L') := ⟨_, rfl⟩
    obtain ⟨m, hm⟩ : ∃ m, m = L'.length := ⟨_, rfl⟩
    rw [← hKd] at hKn hfe ⊢
    rw [← hm] at hKn ⊢
    have HKD := Lib.hid hKd
    have HMD := Lib.hid hm
    have HFE := Lib.hid hfe
    have hcap := HS.out.rd.cap
    rw [← hm] at hcap
    by_cases hK : K = 0
    · have hfin : t = tailR sm (lnP L) start chain := by have := HFE.out; rw [if_pos hK] at this; exact this
      obtain ⟨M, q1, q2, q3⟩ := HS.out.own
      obtain ⟨Av, Cv, hv⟩ := q2.len
      obtain ⟨w9, h9⟩ := stTl t ep HS.out.res ⟨_, _, _, hv⟩
      have HFIN := Lib.hid (show TailPost (tailR sm (lnP L) start chain) (epR (lnP L)) w (.returned (.agg (tlC t ep v))) w9 from
        ⟨_, rfl, ⟨Av, Cv, M, by rw [HEP.out, hfin, hv], by rw [q1, hfin], by rw [← hv]; exact q2.set h9.ch HS.out.res (by decide) (by decide)⟩, HS.out.ch.new (h9.ch.mono fun i _ hi => by rw [hi]; exact HHD.out.2)⟩)
      have HLD := Lib.hid (load_tl HS.out.var)
      have H9 := Lib.hid h9
      subst hK
      clear hKd hm hfe hKn hcap hfin q1 q2 q3 hv h9
      go_wp2_with (first
        | ((with_reducible refine wpList_isOp (.load 40 (.tmp 7)) rfl ?_); refine wpList_loading _ rfl 40 (.tmp 7) rfl (.agg (tlC t ep v)) ⟨D, 0, none⟩ rfl (by exact HLD.out) ?_)
        | ((with_reducible refine wpList_isOp (.store 40 (.tmp 6) (.tmp 54)) rfl ?_); refine wpList_storing _ w9 rfl 40 (.tmp 6) (.tmp 54) rfl (.agg (tlC t ep v)) ⟨H, 0, none⟩ rfl rfl (by exact H9.out.st) ?_)
        | fail)
      exact bodyPost_ret (v := .agg (tlC t ep v)) (results_cell_row Tryz.results55 _ _ H 40 (tlC t ep v) (0, 0) _ rfl H9.out.cx Tryz.underlying40 rfl size_tl) rfl HFIN.out
    · obtain ⟨x, hx⟩ : ∃ x, L'[K - 1]? = some x := ⟨L'[K - 1]'(by omega), List.getElem?_eq_getElem _⟩
      obtain ⟨b', o', rfl, hlx⟩ := rwV_lk HS.out.rd hx
      obtain ⟨M, hM, hRM, hMl⟩ := HS.out.own
      obtain ⟨Av, Cv, rfl⟩ := hRM.len
      obtain ⟨Q, hQ⟩ : ∃ Q, Q = M.length := ⟨_, rfl⟩
      have HTK := Lib.hid (show (L'.take K).length = K by rw [List.length_take, ← hm]; omega)
      have HMEM := Lib.hid HS.out.mem
      obtain ⟨J, hJ⟩ : ∃ J, J = joinP (lnP (L'.take K)) := ⟨_, rfl⟩
      have HJO := Lib.hid (show ∀ W, Ch (fun _ => False) w W → Calls Tryz.prog 96 #[.slice (some ⟨b', o', none⟩) K C'] W (NewL J.length (Cod.litZ J) W) from fun W hc => by
        have := rjoined_any (some ⟨b', o', none⟩) C' (L'.take K) W ((HS.out.rd.front K).gr hc) (fun y hy => (HF.out y (HMEM.out y (List.mem_of_mem_take hy))).2.1) (by rw [HTK.out]; have := HLN.out; have := HS.out.own; omega)
        rw [HTK.out, ← hJ] at this
        exact this)
      have HSX := Lib.hid (HF.out x (HMEM.out x (List.mem_of_getElem? hx))).2.2
      have HLS := Lib.hid (show lastS sm (lnP L') K t.chain = x.sum by
        unfold lastS
        have : (lnP L')[K - 1]? = some x.p := by unfold lnP; rw [List.getElem?_map, hx]; rfl
        rw [this, HSX.out])
      have HJB := Lib.hid (show ∀ c ∈ J, c < 256 by
        rw [hJ]
        intro c hc
        obtain ⟨p, hp, hcp⟩ := List.mem_flatMap.1 hc
        obtain ⟨y, hy, rfl⟩ := List.mem_map.1 hp
        exact (HS.out.rd.rows y (List.mem_of_mem_take hy)).2 c hcp)
      have HJL := Lib.hid (show J.length ≤ 1000000 by
        rw [hJ]
        have := joinP_len (L := lnP (L'.take K)) fun p hp => by
          obtain ⟨y, hy, rfl⟩ := List.mem_map.1 hp
          exact (HF.out y (HMEM.out y (List.mem_of_mem_take hy))).2.1
        rw [lnP_len, HTK.out] at this
        have := HLN.out
        omega)
      have y0 : wr.cell? ⟨D, 0, none⟩ = some (.slice Av M.length Cv) := blk_cell HS.out.var
      have k1 : (0 : Int) < (K : Int) := by omega
      have k2 : (K : Int) ≤ (C' : Int) := by omega
      have k3 : (K : Int) ≤ (m : Int) := by omega
      have k4 : K ≤ C' := by omega
      have HX := Lib.hid hx
      have HLX := Lib.hid hlx
      have HM := Lib.hid hM
      have HRM := Lib.hid hRM
      have HMl := Lib.hid hMl
      have HHJ := Lib.hid hJ
      have HK0 := Lib.hid hK
      have HCAP := Lib.hid hcap
      have HQ := Lib.hid hQ
      rw [← hQ] at y0
      clear hx hlx hM hRM hMl hJ hK hfe hcap hKd hm hQ
      have Y0 := Lib.hid (show wr.drew.cell? ⟨D, 0, none⟩ = some (.slice Av Q Cv) from y0)
      clear y0
      go_upto_region 7 with fail
      go_cut [8] (fun k wx => k = .int .i64 (K : Int) ∧ ∃ g cap M2, M2.length = Q + 1 ∧ MidW L w ep D H J M t wr wx (.slice (some ⟨g, 0, none⟩) (Q + 1) cap) M2)
      case first =>
        refine wp_region_any (by kernel_rfl) ?_
        change wpAny _ _ _ _ _ _ _ (World.drew _)
        refine wpAny_take (i := 0) (oi := ⟨some 30, .fieldAddr 40 (.tmp 7) 0, _, _, _, none⟩) (v := .pointer (some ⟨D, 0, none⟩)) rfl (by kernel_rfl) (by kernel_rfl) (by kernel_rfl) (fun _ _ _ h => h) (Or.inl ⟨by rfl, fun w' => ?_⟩) ?_
        · go_simp
        simp only [Act.put, List.setIfInBounds_toArray, List.set_cons_zero, List.set_cons_succ]
        refine wpAny_take (i := 2) (oi := ⟨some 32, .move (.tmp 0), _, _, _, none⟩) (v := .slice (some ⟨b', o', none⟩) m C') rfl (by kernel_rfl) (by kernel_rfl) (by kernel_rfl) (fun _ _ _ h => h) (Or.inl ⟨by rfl, fun w' => ?_⟩) ?_
        · go_simp
        simp only [Act.put, List.setIfInBounds_toArray, List.set_cons_zero, List.set_cons_succ]
        refine wpAny_take (i := 3) (oi := ⟨some 33, .move (.tmp 8), _, _, _, none⟩) (v := .int .i64 (K : Int)) rfl (by kernel_rfl) (by kernel_rfl) (by kernel_rfl) (fun _ _ _ h => h) (Or.inl ⟨by rfl, fun w' => ?_⟩) ?_
        · go_simp
        simp only [Act.put, List.setIfInBounds_toArray, List.set_cons_zero, List.set_cons_succ]
        refine wpAny_take (i := 4) (oi := ⟨some 34, .slice 95 (.tmp 32) none (some (.tmp 33)) none, _, _, _, none⟩) (v := .slice (some ⟨b', o', none⟩) K C') rfl (by kernel_rfl) (by kernel_rfl) (by kernel_rfl) (fun _ _ _ h => h) (Or.inl ⟨by rfl, fun w' => ?_⟩) ?_
        · go_simp
        simp only [Act.put, List.setIfInBounds_toArray, List.set_cons_zero, List.set_cons_succ]
        refine wpAny_ready (rs := [1, 5]) (by kernel_rfl) (by simp) ?_
        refine AllReady.cons rfl (fun K hK => ?_) (AllReady.cons rfl (fun K hK => ?_) AllReady.nil)
        · replace hK := Lib.hid hK
          refine step_loading (o := ⟨some 31, .load 37 (.tmp 30), _, _, _, none⟩) rfl 37 (.tmp 30) rfl (.slice Av Q Cv) ⟨D, 0, none⟩ rfl (by have yy := Y0.out; go_simp) ?_
          refine hK.out _ _ ?_
          clear hK K
          simp only [Act.put, List.setIfInBounds_toArray, List.set_cons_zero, List.set_cons_succ]
          refine wpAny_ready (rs := [5]) (by kernel_rfl) (by simp) ?_
          refine AllReady.cons rfl (fun K hK => ?_) AllReady.nil
          replace hK := Lib.hid hK
          go_simp
          refine (HJO.out _ (HS.out.ch.drew)).mono ?_
          rintro e w6 ⟨r, rfl, hr, hc6⟩
          obtain ⟨rA, rC, rfl⟩ := own_slice hr
          obtain ⟨g, cap, w7, hmid⟩ := tail_mid HS.out HRM.out HM.out hr hc6 HJL.out HJB.out (by have := HMl.out; have := HLN.out; omega) HHD.out.1
          rw [← HQ.out] at hmid
          have HMID := Lib.hid hmid
          have Y6 := hmid.y6
          clear hr hc6 hmid
          dsimp only
          refine hK.out _ _ ?_
          clear hK K
          refine wpAny_ready (rs := [6]) (by kernel_rfl) (by simp) ?_
          refine AllReady.cons rfl (fun K hK => ?_) AllReady.nil
          replace hK := Lib.hid hK
          go_simp
          refine hK.out _ _ ?_
          clear hK K
          refine wpAny_ready (rs := [7]) (by kernel_rfl) (by simp) ?_
          refine AllReady.cons rfl (fun K hK => ?_) AllReady.nil
          replace hK := Lib.hid hK
          refine step_app_of 37 rfl (.tmp 31) (.tmp 36) rfl rfl (.slice Av Q Cv) (.slice (some ⟨w6.heap.size, 0, none⟩) 1 1) (.slice (some ⟨g, 0, none⟩) (Q + 1) cap) w7 rfl rfl HMID.out.run ?_
          refine hK.out _ _ ?_
          clear hK K
          simp only [Act.put, List.setIfInBounds_toArray]
          refine wpAny_take (i := 8) (oi := ⟨some 38, .fieldAddr 40 (.tmp 7) 0, _, _, _, none⟩) (v := .pointer (some ⟨D, 0, none⟩)) rfl (by kernel_rfl) (by kernel_rfl) (by kernel_rfl) (fun _ _ _ h => h) (Or.inl ⟨by rfl, fun w' => ?_⟩) ?_
          · go_simp
          simp only [Act.put]
          refine wpAny_ready (rs := [9]) (by kernel_rfl) (by simp) ?_
          refine AllReady.cons rfl (fun K hK => ?_) AllReady.nil
          replace hK := Lib.hid hK
          have y7 := HMID.out.y7
          have f7 := HMID.out.f7
          go_simp
          refine hK.out _ _ ?_
          clear hK K y7 f7
          refine wpAny_done (by kernel_rfl) ?_ _
          go_wp2_with fail
          go_meet
          exact ⟨rfl, _, _, _, HMID.out.fin.1, HMID.out.fin.2⟩
        · replace hK := Lib.hid hK
          go_simp
          refine (HJO.out _ (HS.out.ch.drew)).mono ?_
          rintro e w6 ⟨r, rfl, hr, hc6⟩
          obtain ⟨rA, rC, rfl⟩ := own_slice hr
          obtain ⟨g, cap, w7, hmid⟩ := tail_mid HS.out HRM.out HM.out hr hc6 HJL.out HJB.out (by have := HMl.out; have := HLN.out; omega) HHD.out.1
          rw [← HQ.out] at hmid
          have HMID := Lib.hid hmid
          have Y6 := hmid.y6
          clear hr hc6 hmid
          dsimp only
          refine hK.out _ _ ?_
          clear hK K
          refine wpAny_ready (rs := [1, 6]) (by kernel_rfl) (by simp) ?_
          have Y6a : (w6.alloc (.cells #[.slice rA J.length rC] /-t-/24)).cell? ⟨D, 0, none⟩ = some (.slice Av Q Cv) := Lib.cell?_alloc_some _ Y6
          refine AllReady.cons rfl (fun K hK => ?_) (AllReady.cons rfl (fun K hK => ?_) AllReady.nil)
          · replace hK := Lib.hid hK
            refine step_loading (o := ⟨some 31, .load 37 (.tmp 30), _, _, _, none⟩) rfl 37 (.tmp 30) rfl (.slice Av Q Cv) ⟨D, 0, none⟩ rfl (by have yy := Y6; go_simp) ?_
            refine hK.out _ _ ?_
            clear hK K
            simp only [Act.put, List.setIfInBounds_toArray, List.set_cons_zero, List.set_cons_succ]
            refine wpAny_ready (rs := [6]) (by kernel_rfl) (by simp) ?_
            refine AllReady.cons rfl (fun K hK => ?_) AllReady.nil
            replace hK := Lib.hid hK
            go_simp
            refine hK.out _ _ ?_
            clear hK K
            refine wpAny_ready (rs := [7]) (by kernel_rfl) (by simp) ?_
            refine AllReady.cons rfl (fun K hK => ?_) AllReady.nil
            replace hK := Lib.hid hK
            refine step_app_of 37 rfl (.tmp 31) (.tmp 36) rfl rfl (.slice Av Q Cv) (.slice (some ⟨w6.heap.size, 0, none⟩) 1 1) (.slice (some ⟨g, 0, none⟩) (Q + 1) cap) w7 rfl rfl HMID.out.run ?_
            refine hK.out _ _ ?_
            clear hK K
            simp only [Act.put, List.setIfInBounds_toArray]
            refine wpAny_take (i := 8) (oi := ⟨some 38, .fieldAddr 40 (.tmp 7) 0, _, _, _, none⟩) (v := .pointer (some ⟨D, 0, none⟩)) rfl (by kernel_rfl) (by kernel_rfl) (by kernel_rfl) (fun _ _ _ h => h) (Or.inl ⟨by rfl, fun w' => ?_⟩) ?_
            · go_simp
            simp only [Act.put]
            refine wpAny_ready (rs := [9]) (by kernel_rfl) (by simp) ?_
            refine AllReady.cons rfl (fun K hK => ?_) AllReady.nil
            replace hK := Lib.hid hK
            have y7 := HMID.out.y7
            have f7 := HMID.out.f7
            go_simp
            refine hK.out _ _ ?_
            clear hK K y7 f7
            refine wpAny_done (by kernel_rfl) ?_ _
            go_wp2_with fail
            go_meet
            exact ⟨rfl, _, _, _, HMID.out.fin.1, HMID.out.fin.2⟩
          · replace hK := Lib.hid hK
            go_simp
            refine hK.out _ _ ?_
            clear hK K
            refine wpAny_ready (rs := [1]) (by kernel_rfl) (by simp) ?_
            refine AllReady.cons rfl (fun K hK => ?_) AllReady.nil
            replace hK := Lib.hid hK
            refine step_loading (o := ⟨some 31, .load 37 (.tmp 30), _, _, _, none⟩) rfl 37 (.tmp 30) rfl (.slice Av Q Cv) ⟨D, 0, none⟩ rfl (by have yy := Y6a; go_simp) ?_
            refine hK.out _ _ ?_
            clear hK K
            simp only [Act.put, List.setIfInBounds_toArray, List.set_cons_zero, List.set_cons_succ]
            refine wpAny_ready (rs := [7]) (by kernel_rfl) (by simp) ?_
            refine AllReady.cons rfl (fun K hK => ?_) AllReady.nil
            replace hK := Lib.hid hK
            refine step_app_of 37 rfl (.tmp 31) (.tmp 36) rfl rfl (.slice Av Q Cv) (.slice (some ⟨w6.heap.size, 0, none⟩) 1 1) (.slice (some ⟨g, 0, none⟩) (Q + 1) cap) w7 rfl rfl HMID.out.run ?_
            refine hK.out _ _ ?_
            clear hK K
            simp only [Act.put, List.setIfInBounds_toArray]
            refine wpAny_take (i := 8) (oi := ⟨some 38, .fieldAddr 40 (.tmp 7) 0, _, _, _, none⟩) (v := .pointer (some ⟨D, 0, none⟩)) rfl (by kernel_rfl) (by kernel_rfl) (by kernel_rfl) (fun _ _ _ h => h) (Or.inl ⟨by rfl, fun w' => ?_⟩) ?_
            · go_simp
            simp only [Act.put]
            refine wpAny_ready (rs := [9]) (by kernel_rfl) (by simp) ?_
            refine AllReady.cons rfl (fun K hK => ?_) AllReady.nil
            replace hK := Lib.hid hK
            have y7 := HMID.out.y7
            have f7 := HMID.out.f7
            go_simp
            refine hK.out _ _ ?_
            clear hK K y7 f7
            refine wpAny_done (by kernel_rfl) ?_ _
            go_wp2_with fail
            go_meet
            exact ⟨rfl, _, _, _, HMID.out.fin.1, HMID.out.fin.2⟩
      case rest =>
        obtain ⟨rfl, g, cap, M2, hM2, hmid⟩ := hcut
        obtain ⟨v2, hv2d⟩ : ∃ v2, v2 = Value.slice (some ⟨g, 0, none⟩) (Q + 1) cap := ⟨_, rfl⟩
        rw [← hv2d] at hmid
        have hcw8 := hmid.ch
        have hres8 := hmid.res
        have hv8 := hmid.var
        have hr8 := hmid.own
        obtain ⟨nx, hnx⟩ : ∃ nx, nx = t.next := ⟨_, rfl⟩
        have hv9 : (wc.setCell ⟨D, 1, none⟩ (.int .i64 (nx + (K : Int)))).heap[D]? = some (.cells (tlC ⟨t.txs, nx + (K : Int), t.chain⟩ ep v2) 40 (0, 0)) := blk_set (i := 1) hv8 _
        have hv10 : ((wc.setCell ⟨D, 1, none⟩ (.int .i64 (nx + (K : Int)))).setCell ⟨D, 2, none⟩ (.int .i64 x.sum)).heap[D]? = some (.cells (tlC ⟨t.txs, nx + (K : Int), x.sum⟩ ep v2) 40 (0, 0)) := blk_set (i := 2) hv9 _
        obtain ⟨w10, hw10⟩ : ∃ w10, w10 = (wc.setCell ⟨D, 1, none⟩ (.int .i64 (nx + (K : Int)))).setCell ⟨D, 2, none⟩ (.int .i64 x.sum) := ⟨_, rfl⟩
        have k9 : Ch (fun i => i = D) wc (wc.setCell ⟨D, 1, none⟩ (.int .i64 (nx + (K : Int)))) := Ch.setCell (S := fun i => i = D) (Ch.refl _ wc) (p := ⟨D, 1, none⟩) (Or.inl rfl) _
        have k10 : Ch (fun i => i = D) wc w10 := by rw [hw10]; exact k9.setCell (p := ⟨D, 2, none⟩) (Or.inl rfl) _
        have hDs : w.heap.size ≤ D := by have := HHD.out; omega
        have hcw9 : Ch (fun _ => False) w (wc.setCell ⟨D, 1, none⟩ (.int .i64 (nx + (K : Int)))) := hcw8.new (k9.mono fun i _ hi => by rw [hi]; exact hDs)
        have hcw10 : Ch (fun _ => False) w w10 := hcw8.new (k10.mono fun i _ hi => by rw [hi]; exact hDs)
        have y8 : wc.cell? ⟨D, 1, none⟩ = some (.int .i64 nx) := by rw [hnx]; exact blk_cell hv8
        have f8 : wc.frozen? ⟨D, 1, none⟩ = false := blk_frozen hv8
        have y9 : (wc.setCell ⟨D, 1, none⟩ (.int .i64 (nx + (K : Int)))).cell? ⟨D, 2, none⟩ = some (.int .i64 t.chain) := blk_cell hv9
        have f9 : (wc.setCell ⟨D, 1, none⟩ (.int .i64 (nx + (K : Int)))).frozen? ⟨D, 2, none⟩ = false := blk_frozen hv9
        have x9 : (wc.setCell ⟨D, 1, none⟩ (.int .i64 (nx + (K : Int)))).cell? ⟨b', o' + (K - 1) * 8 + 7, none⟩ = some (.int .i64 x.sum) := (HLX.out.gr hcw9).x7
        obtain ⟨N1, hN1⟩ : ∃ N1, N1 = K - 1 := ⟨_, rfl⟩
        rw [← hN1] at x9
        have n1 : (K : Int) - 1 = (N1 : Int) := by omega
        have n2 : wrap64 ((K : Int) - 1) = (N1 : Int) := by rw [n1]; exact IntWalk.wrap64_in _ ⟨by omega, by have := HLN.out; have := HMl.out; have := HMD.out; omega⟩
        have n3 : (0 : Int) ≤ (N1 : Int) := Int.natCast_nonneg _
        have n4 : (N1 : Int) < (m : Int) := by omega
        have hb1 := HS.out.b1
        have hb2 := HS.out.b2
        rw [← hnx] at hb1 hb2
        have n5 : nx ≤ 4294968295 := by have := HBD.out; omega
        have n6 : (K : Int) ≤ 1000 := by have := HLN.out; have := HMl.out; have := HMD.out; omega
        have n7 : (0 : Int) ≤ (K : Int) := by omega
        have n8 : wrap64 (nx + (K : Int)) = nx + (K : Int) := IntWalk.wrap64_in _ ⟨by omega, by omega⟩
        have hA2 : ∃ A2, ((C' = K ∧ A2 = some ⟨b', o', none⟩) ∨ (¬ C' = K ∧ A2 = some ⟨b', o' + K * 8, none⟩)) ∧ RwV kdL elL w A2 (C' - K) (L'.drop K) := by
          by_cases q : C' = K
          · refine ⟨_, Or.inl ⟨q, rfl⟩, ?_⟩
            have : L'.drop K = [] := List.drop_eq_nil_of_le (by have := HMD.out; have := HCAP.out; omega)
            rw [this]
            exact RwV.none _ _ _ _
          · exact ⟨_, Or.inr ⟨q, rfl⟩, HS.out.rd.tail K (by have := HMD.out; omega)⟩
        obtain ⟨A2, hA2, hrd2⟩ := hA2
        have HA2 := Lib.hid hA2
        have hdl : (L'.drop K).length = m - K := by rw [List.length_drop, HMD.out]
        have HWH2 := Lib.hid (HWH.out A2 (C' - K) (L'.drop K) w10 hrd2 (fun y hy => HMEM.out y (List.mem_of_mem_drop hy)) hcw10 (by rw [hdl]; have := HLN.out; have := HMl.out; have := HMD.out; omega))
        rw [hdl] at HWH2
        have HST2 := Lib.hid (fun (w11 : World) (k : Ch (fun _ => False) w10 w11) => show TailSt sm L w (tailR sm (lnP L) start chain) ep (start + 1000) D H w11 A2 (C' - K) (L'.drop K) ⟨t.txs ++ [J], nx + (K : Int), x.sum⟩ v2 from
          ⟨hrd2, fun y hy => HMEM.out y (List.mem_of_mem_drop hy), by rw [hw10] at k; exact (k.block D (blk_lt hv10) (fun f => f)).trans hv10,
            (k.block H (by rw [show w10.heap.size = wc.heap.size by rw [hw10]; simp]; exact blk_lt hres8) (fun f => f)).trans ((k10.block H (blk_lt hres8) (by have := HHD.out; omega)).trans hres8),
            ⟨M2, by rw [hmid.txs, HM.out], (hr8.set k10 hv8 (by decide) (by decide)).gr k, by rw [hM2, hdl, HQ.out]; have := HMl.out; have := HMD.out; omega⟩,
            hcw10.trans k, by
              have q := HFE.out
              rw [if_neg HK0.out] at q
              rw [← lnP_len, lnP_drop, ← q]
              unfold stepT
              rw [← HKD.out, HLS.out, ← lnP_take, ← HHJ.out, hnx], HS.out.lowD, by show 0 ≤ nx + (K : Int); omega, by show nx + (K : Int) + ((L'.drop K).length : Int) ≤ _; rw [hdl]; rw [← HMD.out] at hb2; omega⟩)
        have HDL := Lib.hid hdl
        have HP := Lib.hid (show 0 < K ∧ 0 < m by omega)
        have HW10 := Lib.hid hw10
        clear hcw8 hres8 hv8 hr8 hmid hM2 hv9 hv10 hw10 k9 k10 hDs hcw9 hcw10 hN1 hb1 hb2 hA2 hrd2 hdl hnx hv2d
        rcases HA2.out with ⟨q1, rfl⟩ | ⟨q1, rfl⟩
        · obtain rfl : C' = K := q1
          obtain rfl : m = C' := by have := HCAP.out; omega
          rw [Nat.sub_self] at HWH2 HST2
          have HD0 := Lib.hid (show (L'.drop m).length = 0 by rw [HDL.out, Nat.sub_self])
          clear HDL
          go_wp2_with fail
          rw [← HW10.out]
          refine HWH2.out.mono ?_
          rintro e w11 ⟨rfl, hc11⟩
          have HS2 := Lib.hid (HST2.out w11 hc11)
          clear hc11
          go_wp2
          go_roundw
          case rel => exact ⟨_, _, L'.drop m, _, _, by rw [HD0.out], rfl, HS2⟩
          case measure => show 0 < lenV _; exact HP.out.2
        · have t4 : (C' : Int) - (K : Int) ≠ 0 := by omega
          clear HCAP
          go_wp2_with fail
          rw [← HW10.out]
          refine HWH2.out.mono ?_
          rintro e w11 ⟨rfl, hc11⟩
          have HS2 := Lib.hid (HST2.out w11 hc11)
          clear hc11
          go_wp2
          go_roundw
          case rel => exact ⟨_, _, L'.drop K, _, _, by rw [HDL.out], rfl, HS2⟩
          case measure => show m - K < m; have := HP.out; omega
end Go.Proofs.YteleknojohnlbaaGreat
