/-
  Rows that grow in a list that was made: how they lie in memory; the document's Decode where too few are left, walked.
-/
import Derived.Test.YtlgdajmidcdiaaaRsS
import Derived.Test.YtlgdajmidcdiaaaRsL5
import Derived.Deep.RegionLaw
namespace Go.Proofs.Ytlgdajmidcdiaaa
open Go.RowKit
set_option linter.unusedVariables false

structure DataAt (base : Nat) (w : World) (gd k : Nat) (V : Nat → Value) (cnt : Nat → Nat) (D : Nat → Nat → Nat) : Prop where
  top : ∃ cs, w.heap[gd]? = some (.cells cs /-t-/33 (0, 0)) ∧ cs.size = k ∧ ∀ r, r < k → cs[r]? = some (V r)
  row : ∀ r, r < k → w.ownsRow base /-t-/5 1 (V r) (cnt r) (bytesL (cnt r) (D r))
  ap : ∀ r s, r < k → s < k → r ≠ s → ∀ q, (V r).ownBlock = some q → (V s).ownBlock ≠ some q
  lt : gd < base
theorem DataAt.topAt {base : Nat} {w : World} {gd k : Nat} {V : Nat → Value} {cnt : Nat → Nat} {D : Nat → Nat → Nat} (h : DataAt base w gd k V cnt D) {r : Nat} (hr : r < k) : w.cell? ⟨gd, r, none⟩ = some (V r) ∧ w.frozen? ⟨gd, r, none⟩ = false := by
  obtain ⟨cs, hb, _, hx⟩ := h.top
  exact ⟨by simp [World.cell?, hb, hx r hr], by simp [World.frozen?, hb]⟩
theorem DataAt.ch {base : Nat} {w w' : World} {gd k : Nat} {V : Nat → Value} {cnt : Nat → Nat} {D : Nat → Nat → Nat} (h : DataAt base w gd k V cnt D) (c : Ch (fun _ => False) w w') : DataAt base w' gd k V cnt D := by
  refine ⟨?_, fun r hr => ownsRow_ch (h.row r hr) c, h.ap, h.lt⟩
  obtain ⟨cs, hb, hx⟩ := h.top
  exact ⟨cs, (c.block gd (Array.getElem?_eq_some_iff.1 hb).1 (fun f => f)).trans hb, hx⟩
theorem DataAt.cnts {base : Nat} {w : World} {gd k : Nat} {V : Nat → Value} {cnt cnt' : Nat → Nat} {D : Nat → Nat → Nat} (h : DataAt base w gd k V cnt D) (e : ∀ r, r < k → cnt r = cnt' r) : DataAt base w gd k V cnt' D :=
  ⟨h.top, fun r hr => by rw [← e r hr]; exact h.row r hr, h.ap, h.lt⟩
/-- One number more in row i. -/
structure DataStep (base : Nat) (w0 w : World) (gd k i : Nat) (V : Nat → Value) (cnt : Nat → Nat) (D : Nat → Nat → Nat) (v' : Value) (w' : World) : Prop where
  run : (Builtin.append_ #[ /-t-/33, /-t-/33] /-t-/33 #[V i, .slice (some ⟨w.heap.size, 0, none⟩) 1 1]).run Try.prog (w.drew.alloc (.cells #[.int .u8 (D i (cnt i) : Int)] /-t-/5)) = .ok v' w'
  cell : w'.cell? ⟨gd, i, none⟩ = some (V i)
  frozen : w'.frozen? ⟨gd, i, none⟩ = false
  next : DataAt base (w'.setCell ⟨gd, i, none⟩ v') gd k (upF V i v') (up1 cnt i (cnt i + 1)) D
  ch : Ch (fun _ => False) w0 (w'.setCell ⟨gd, i, none⟩ v')
  other : ∀ q, q < w.heap.size → q ≠ gd → (V i).ownBlock ≠ some q → (w'.setCell ⟨gd, i, none⟩ v').heap[q]? = w.heap[q]?
  blk : v'.ownBlock = (V i).ownBlock ∨ v'.ownBlock = some (w.heap.size + 1)
  size : w.heap.size ≤ (w'.setCell ⟨gd, i, none⟩ v').heap.size
  form : ∃ A C, v' = .slice A (cnt i + 1) C
theorem DataAt.step {base : Nat} {w0 w : World} {gd k i : Nat} {V : Nat → Value} {cnt : Nat → Nat} {D : Nat → Nat → Nat} (h : DataAt base w gd k V cnt D) (hi : i < k) (hc : cnt i ≤ 65536) (hbw : base ≤ w.heap.size) (hch : Ch (fun _ => False) w0 w) (hb0 : w0.heap.size ≤ gd) : ∃ v' w', DataStep base w0 w gd k i V cnt D v' w' := by
  obtain ⟨j0, gi, gz0, gz1, gz2⟩ := info_parts Try.info5
  obtain ⟨W, hW⟩ : ∃ W, W = w.drew.alloc (.cells #[.int .u8 (D i (cnt i) : Int)] /-t-/5) := ⟨_, rfl⟩
  have hWc : Ch (fun _ => False) w W := by rw [hW]; exact ((Ch.refl _ w).drew).alloc _ _
  have hWs : W.heap.size = w.heap.size + 1 := by
    rw [hW]
    have : w.drew.heap.size = w.heap.size := rfl
    simp [this]
  have hWn : ∀ j u, [Value.int .u8 (D i (cnt i) : Int)][j]? = some u → W.cell? ((⟨w.heap.size, 0, none⟩ : Addr).add j) = some u := by
    rw [hW]; exact one_news w.drew _ _
  have hA := h.ch hWc
  obtain ⟨v', w', hr, h2, h3, _, h5⟩ := run_append_own_at (P := Try.prog) W base /-t-/33 /-t-/33 /-t-/5 j0 (.int .u8 0) 1 1 Try.underlying33 gi gz0 gz1 gz2 rfl (by decide) (V i) (cnt i) (bytesL (cnt i) (D i)) (hA.row i hi) ⟨w.heap.size, 0, none⟩ 1 1 [.int .u8 (D i (cnt i) : Int)] rfl hWn
    (fun u hu => by rw [List.mem_singleton] at hu; rw [hu]; rfl) (by unfold maxLen; omega) (by omega) (by omega)
  rw [← bytesL_snoc] at h2
  have hgd : gd < w.heap.size := by
    obtain ⟨cs, hb, _⟩ := h.top
    exact (Array.getElem?_eq_some_iff.1 hb).1
  have hblk : ∀ r, r < k → ∀ q, (V r).ownBlock = some q → base ≤ q ∧ q < w.heap.size := fun r hr q hq => World.ownsRow.lt (h.row r hr) q hq
  have hgdn : (V i).ownBlock ≠ some gd := fun e => by have := (hblk i hi gd e).1; have := h.lt; omega
  have hgdn' : v'.ownBlock ≠ some gd := fun e => by have := (World.ownsRow.lt h2 gd e).1; have := h.lt; omega
  have hgb : w'.heap[gd]? = W.heap[gd]? := h3.block gd (by omega) (fun e => hgdn e.symm)
  obtain ⟨cs, hb, hsz, hx⟩ := hA.top
  have hb' := hgb.trans hb
  have uV : ∀ r, r ≠ i → upF V i v' r = V r := fun r hr => by unfold upF; rw [if_neg hr]
  have uVi : upF V i v' i = v' := by unfold upF; rw [if_pos rfl]
  refine ⟨v', w', by rw [← hW]; exact hr, by simp [World.cell?, hb', hx i hi], by simp [World.frozen?, hb'], ⟨?_, fun r hr => ?_, fun r s hr hs hne q hq e => ?_, h.lt⟩, ?_, fun q hq h1 h2 => ?_, by rw [hWs] at h5; exact h5, by have := h3.size; simp [World.setCell]; omega, by obtain ⟨A, C, e, _⟩ := form_len h2; exact ⟨A, C, e⟩⟩
  · refine ⟨cs.setIfInBounds i v', heap_set hb', by simpa using hsz, fun r hr => ?_⟩
    rw [Array.getElem?_setIfInBounds]
    by_cases e : i = r
    · subst e; rw [if_pos rfl, if_pos (by omega), uVi]
    · rw [if_neg e, uV r (fun q => e q.symm)]; exact hx r hr
  · by_cases e : r = i
    · subst e
      rw [uVi]
      have : up1 cnt r (cnt r + 1) r = cnt r + 1 := by unfold up1; rw [if_pos rfl]
      rw [this]
      exact owns_elsewhere h2 (p := ⟨gd, r, none⟩) hgdn' _
    · rw [uV r e]
      have : up1 cnt i (cnt i + 1) r = cnt r := by unfold up1; rw [if_neg e]
      rw [this]
      refine owns_elsewhere ((hA.row r hr).kept h3 ?_) (p := ⟨gd, i, none⟩) (fun e2 => by have := (hblk r hr gd e2).1; have := h.lt; omega) _
      cases hv : (V r).ownBlock with
      | none => exact Or.inl rfl
      | some q => exact Or.inr fun e2 => h.ap i r hi hr (fun z => e z.symm) q e2.symm hv
  · by_cases e1 : r = i
    · rw [e1, uVi] at hq
      have e2 : s ≠ i := fun z => hne (by rw [e1, z])
      rw [uV s e2] at e
      rcases h5 with h5 | h5
      · exact h.ap i s hi hs (fun z => e2 z.symm) q (by rw [← h5]; exact hq) e
      · rw [h5] at hq
        injection hq with hq
        have := (hblk s hs q e).2
        omega
    · rw [uV r e1] at hq
      by_cases e2 : s = i
      · rw [e2, uVi] at e
        rcases h5 with h5 | h5
        · exact h.ap r i hr hi e1 q hq (by rw [← h5]; exact e)
        · rw [h5] at e
          injection e with e
          have := (hblk r hr q hq).2
          omega
      · rw [uV s e2] at e
        exact h.ap r s hr hs hne q hq e
  · have hlt := h.lt
    have c1 : Ch (fun _ => False) w0 w' := (hch.trans hWc).grown h3 (fun q hq => Or.inr (by have := (hblk i hi q hq).1; omega))
    exact c1.setCell (p := ⟨gd, i, none⟩) (Or.inr hb0) _
  · exact (Below.heap_setCell w' ⟨gd, i, none⟩ v' q h1).trans ((h3.block q (by omega) (fun e => h2 e.symm)).trans (hWc.block q hq (fun f => f)))
/-- A step of a region that draws: append, by its run. -/
theorem step_bytes_of {ops : Array Oper} {o : Oper} {a : Act} {w : World} {K : Act → World → Prop} {Q : Exit → Act → World → Prop} {E : Prop} (hg : o.guard = none) (s x : Operand)
    (hop : o.op = Op.call { callee := Callee.builtin Builtin.append, args := #[s, x], argTypes := #[ /-t-/33, /-t-/33] }) (hty : o.type = /-t-/33) (sv xv v' : Value) (w' : World) (hs : a.eval s = sv) (hx : a.eval x = xv)
    (hrun : (Builtin.append_ #[ /-t-/33, /-t-/33] /-t-/33 #[sv, xv]).run Try.prog w = .ok v' w') (hK : K (a.put o.dst v') w') : if Region.wanted o (yielded ops a.tmps) = true then Oper.wp Try.prog o a w K Q else E := by
  have hw : Region.wanted o (yielded ops a.tmps) = true := by simp [Region.wanted, hg]
  rw [if_pos hw]
  unfold Oper.wp
  simp only [execOp, hop, hty, resolve, invoke, builtin, Sem.run_bind, Sem.run_pure, Result.andThen_ok, List.map_toArray, List.map_cons, List.map_nil, hs, hx, hrun]
  exact hK
theorem DataAt.bld {base : Nat} {w : World} {gd k l base0 : Nat} {V : Nat → Value} {cnt : Nat → Nat} {D : Nat → Nat → Nat} (h : DataAt base w gd k V cnt D) (hc : ∀ r, r < k → cnt r = l) (hD : AllB D) (hl : l ≤ 65536) (hk : k ≤ 65536) (hb : base0 ≤ gd) : BldL base0 0 w (.slice (some ⟨gd, 0, none⟩) k k) k (fun _ => l) D := by
  obtain ⟨cs, hcb, hsz, hx⟩ := h.top
  refine ⟨valsL k V, ⟨by unfold valsL; simp, Or.inr ⟨gd, k, cs, rfl, hb, hcb, Nat.le_refl _, by unfold maxLen; omega, by omega, ?_⟩⟩, fun r hr => ⟨V r, valsL_get hr, ?_, fun q hq => ?_⟩⟩
  · refine List.ext_getElem? fun j => ?_
    rw [Nat.mul_one, List.getElem?_take]
    by_cases hj : j < k
    · rw [if_pos hj, valsL_get hj, Array.getElem?_toList]; exact hx j hj
    · rw [if_neg hj, List.getElem?_eq_none (by unfold valsL; simp; omega)]
  · have := h.row r hr
    rw [hc r hr] at this
    exact ownsRow_rowV this (show l ≤ 140737488351232 by omega) (fun c _ => hD _ _)
  · have := World.ownsRow.lt (h.row r hr) q hq
    have := h.lt
    exact ⟨by omega, fun e => by have e' : gd = q := by simpa [Value.ownBlock] using e
                                 omega, Far.zero _ _⟩
#print axioms DataAt.step
set_option maxHeartbeats 800000 in
theorem rdecode_argA (A : Option Addr) (n C : Nat) (k : Int) (w : World) (h : ¬ (1 ≤ k ∧ k ≤ 64)) : Calls Try.prog 18 #[.slice A n C, .int .i64 k] w (ErrPost 1 w) := by
  go_enter Try.func18, Try.ntmps18
  go_wp2_with fail
  refine (rrows_no _ _ (fun q => by omega) _).mono ?_
  rintro e w1 ⟨rfl, hch⟩
  go_wp2
  go_ret2
  exact ⟨rfl, hch⟩
set_option maxHeartbeats 800000 in
theorem rdecode_argB (A : Option Addr) (n C : Nat) (k : Int) (w : World) (hn : n ≤ 140737488351232) (k1 : 1 ≤ k) (k2 : k ≤ 64) (h : ¬ (k ≤ n ∧ n ≤ 64)) : Calls Try.prog 18 #[.slice A n C, .int .i64 k] w (ErrPost 1 w) := by
  have HH := Lib.hid h
  clear h
  go_enter Try.func18, Try.ntmps18
  go_wp2_with fail
  refine (rrows_no _ _ (fun q => by have := HH.out; omega) _).mono ?_
  rintro e w1 ⟨rfl, hch⟩
  go_wp2
  go_ret2
  exact ⟨rfl, hch⟩
#print axioms rdecode_argB
end Go.Proofs.Ytlgdajmidcdiaaa
