/-
  Rows that grow in a list that was made: how they lie in memory; the document's Decode where too few are left, walked. The document's Decode, walked. A device in memory: what its block, its sectors, what waits and what is misled hold, in plain words; what may happen tto it.
-/
import Derived.Test.YtlbdopcchoklhaaGreatMh17
import Derived.Test.YtlbdopcchoklhaaGreatMh18
import Derived.Deep.RegionLaw
import Derived.Test.YtlbdopcchoklhaaGreatMh5
import Derived.Test.YtlbdopcchoklhaaGreatMh1
import Derived.Deep.MidRow
import Derived.Lib.LazyBuf
namespace Go.Proofs.YtlbdopcchoklhaaGreat
open Go.RowKit
set_option linter.unusedVariables false
set_option maxRecDepth 100000

structure DataAt (base : Nat) (w : World) (gd k : Nat) (V : Nat → Value) (cnt : Nat → Nat) (D : Nat → Nat → Nat) : Prop where
  top : ∃ cs, w.heap[gd]? = some (.cells cs /-t-/24 (0, 0)) ∧ cs.size = k ∧ ∀ r, r < k → cs[r]? = some (V r)
  row : ∀ r, r < k → w.ownsRow base /-t-/5 1 (V r) (cnt r) (bytesL (cnt r) (D r))
  ap : ∀ r s, r < k → s < k → r ≠ s → ∀ q, (V r).ownBlock = some q → (V s).ownBlock ≠ some q
  lt : gd < base
theorem DataAt.ch {base : Nat} {w w' : World} {gd k : Nat} {V : Nat → Value} {cnt : Nat → Nat} {D : Nat → Nat → Nat} (h : DataAt base w gd k V cnt D) (c : Ch (fun _ => False) w w') : DataAt base w' gd k V cnt D := by
  refine ⟨?_, fun r hr => ownsRow_ch (h.row r hr) c, h.ap, h.lt⟩
  obtain ⟨cs, hb, hx⟩ := h.top
  exact ⟨cs, (c.block gd (Array.getElem?_eq_some_iff.1 hb).1 (fun f => f)).trans hb, hx⟩
/-- One number more in row i. -/
structure DataStep (base : Nat) (w0 w : World) (gd k i : Nat) (V : Nat → Value) (cnt : Nat → Nat) (D : Nat → Nat → Nat) (v' : Value) (w' : World) : Prop where
  run : (Builtin.append_ #[ /-t-/24, /-t-/24] /-t-/24 #[V i, .slice (some ⟨w.heap.size, 0, none⟩) 1 1]).run Tryz.prog (w.drew.alloc (.cells #[.int .u8 (D i (cnt i) : Int)] /-t-/5)) = .ok v' w'
  cell : w'.cell? ⟨gd, i, none⟩ = some (V i)
  frozen : w'.frozen? ⟨gd, i, none⟩ = false
  next : DataAt base (w'.setCell ⟨gd, i, none⟩ v') gd k (upF V i v') (up1 cnt i (cnt i + 1)) D
  ch : Ch (fun _ => False) w0 (w'.setCell ⟨gd, i, none⟩ v')
  other : ∀ q, q < w.heap.size → q ≠ gd → (V i).ownBlock ≠ some q → (w'.setCell ⟨gd, i, none⟩ v').heap[q]? = w.heap[q]?
  blk : v'.ownBlock = (V i).ownBlock ∨ v'.ownBlock = some (w.heap.size + 1)
  size : w.heap.size ≤ (w'.setCell ⟨gd, i, none⟩ v').heap.size
  form : ∃ A C, v' = .slice A (cnt i + 1) C
theorem DataAt.step {base : Nat} {w0 w : World} {gd k i : Nat} {V : Nat → Value} {cnt : Nat → Nat} {D : Nat → Nat → Nat} (h : DataAt base w gd k V cnt D) (hi : i < k) (hc : cnt i ≤ 65536) (hbw : base ≤ w.heap.size) (hch : Ch (fun _ => False) w0 w) (hb0 : w0.heap.size ≤ gd) : ∃ v' w', DataStep base w0 w gd k i V cnt D v' w' := by
  obtain ⟨j0, gi, gz0, gz1, gz2⟩ := info_parts Tryz.info5
  obtain ⟨W, hW⟩ : ∃ W, W = w.drew.alloc (.cells #[.int .u8 (D i (cnt i) : Int)] /-t-/5) := ⟨_, rfl⟩
  have hWc : Ch (fun _ => False) w W := by rw [hW]; exact ((Ch.refl _ w).drew).alloc _ _
  have hWs : W.heap.size = w.heap.size + 1 := by
    rw [hW]
    have : w.drew.heap.size = w.heap.size := rfl
    simp [this]
  have hWn : ∀ j u, [Value.int .u8 (D i (cnt i) : Int)][j]? = some u → W.cell? ((⟨w.heap.size, 0, none⟩ : Addr).add j) = some u := by
    rw [hW]; exact one_news w.drew _ _
  have hA := h.ch hWc
  obtain ⟨v', w', hr, h2, h3, _, h5⟩ := run_append_own_at (P := Tryz.prog) W base /-t-/24 /-t-/24 /-t-/5 j0 (.int .u8 0) 1 1 Tryz.underlying24 gi gz0 gz1 gz2 rfl (by decide) (V i) (cnt i) (bytesL (cnt i) (D i)) (hA.row i hi) ⟨w.heap.size, 0, none⟩ 1 1 [.int .u8 (D i (cnt i) : Int)] rfl hWn
    (fun u hu => by rw [List.mem_singleton] at hu; rw [hu]; rfl) (by unfold maxLen; omega) (by omega) (by omega)
  rw [← bytesL_snoc] at h2
  have hgd : gd < w.heap.size := by
    obtain ⟨cs, hb, _⟩ := h.top
    exact (Array.getElem?_eq_some_iff.1 hb).1
  have hblk : ∀ r, r < k → ∀ q, (V r).ownBlock = some q → base ≤ q ∧ q < w.heap.size := fun r hr q hq => World.ownsRow.lt (h.row r hr) q hq
  have hgdn : (V i).ownBlock ≠ some gd := fun e => by have := (hblk i hi gd e).1; have := h.lt; omega
  have hgdn' : v'.ownBlock ≠ some gd := fun e => by have := (World.ownsRow.lt h2 gd e).1; have := h.lt; omega
  have hgb : w'.heap[gd]? = W.heap[gd]? := h3.block gd (by omega) (fun e => hgdn e.symm)
  obtain ⟨cs, hb, hsz, hx⟩ := hA.top
  have hb' := hgb.trans hb
  have uV : ∀ r, r ≠ i → upF V i v' r = V r := fun r hr => by unfold upF; rw [if_neg hr]
  have uVi : upF V i v' i = v' := by unfold upF; rw [if_pos rfl]
  refine ⟨v', w', by rw [← hW]; exact hr, by simp [World.cell?, hb', hx i hi], by simp [World.frozen?, hb'], ⟨?_, fun r hr => ?_, fun r s hr hs hne q hq e => ?_, h.lt⟩, ?_, fun q hq h1 h2 => ?_, by rw [hWs] at h5; exact h5, by have := h3.size; simp [World.setCell]; omega, by obtain ⟨A, C, e, _⟩ := form_len h2; exact ⟨A, C, e⟩⟩
  · refine ⟨cs.setIfInBounds i v', heap_set hb', by simpa using hsz, fun r hr => ?_⟩
    rw [Array.getElem?_setIfInBounds]
    by_cases e : i = r
    · subst e; rw [if_pos rfl, if_pos (by omega), uVi]
    · rw [if_neg e, uV r (fun q => e q.symm)]; exact hx r hr
  · by_cases e : r = i
    · subst e
      rw [uVi]
      have : up1 cnt r (cnt r + 1) r = cnt r + 1 := by unfold up1; rw [if_pos rfl]
      rw [this]
      exact owns_elsewhere h2 (p := ⟨gd, r, none⟩) hgdn' _
    · rw [uV r e]
      have : up1 cnt i (cnt i + 1) r = cnt r := by unfold up1; rw [if_neg e]
      rw [this]
      refine owns_elsewhere ((hA.row r hr).kept h3 ?_) (p := ⟨gd, i, none⟩) (fun e2 => by have := (hblk r hr gd e2).1; have := h.lt; omega) _
      cases hv : (V r).ownBlock with
      | none => exact Or.inl rfl
      | some q => exact Or.inr fun e2 => h.ap i r hi hr (fun z => e z.symm) q e2.symm hv
  · by_cases e1 : r = i
    · rw [e1, uVi] at hq
      have e2 : s ≠ i := fun z => hne (by rw [e1, z])
      rw [uV s e2] at e
      rcases h5 with h5 | h5
      · exact h.ap i s hi hs (fun z => e2 z.symm) q (by rw [← h5]; exact hq) e
      · rw [h5] at hq
        injection hq with hq
        have := (hblk s hs q e).2
        omega
    · rw [uV r e1] at hq
      by_cases e2 : s = i
      · rw [e2, uVi] at e
        rcases h5 with h5 | h5
        · exact h.ap r i hr hi e1 q hq (by rw [← h5]; exact e)
        · rw [h5] at e
          injection e with e
          have := (hblk r hr q hq).2
          omega
      · rw [uV s e2] at e
        exact h.ap r s hr hs hne q hq e
  · have hlt := h.lt
    have c1 : Ch (fun _ => False) w0 w' := (hch.trans hWc).grown h3 (fun q hq => Or.inr (by have := (hblk i hi q hq).1; omega))
    exact c1.setCell (p := ⟨gd, i, none⟩) (Or.inr hb0) _
  · exact (Below.heap_setCell w' ⟨gd, i, none⟩ v' q h1).trans ((h3.block q (by omega) (fun e => h2 e.symm)).trans (hWc.block q hq (fun f => f)))
/-- A step of a region that draws: append, by its run. -/
theorem step_bytes_ofF {ops : Array Oper} {o : Oper} {a : Act} {w : World} {K : Act → World → Prop} {Q : Exit → Act → World → Prop} {E : Prop} (hg : o.guard = none) (s x : Operand)
    (hop : o.op = Op.call { callee := Callee.builtin Builtin.append, args := #[s, x], argTypes := #[ /-t-/24, /-t-/24] }) (hty : o.type = /-t-/24) (sv xv v' : Value) (w' : World) (hs : a.eval s = sv) (hx : a.eval x = xv)
    (hrun : (Builtin.append_ #[ /-t-/24, /-t-/24] /-t-/24 #[sv, xv]).run Tryz.prog w = .ok v' w') (hK : K (a.put o.dst v') w') : if Region.wanted o (yielded ops a.tmps) = true then Oper.wp Tryz.prog o a w K Q else E := by
  have hw : Region.wanted o (yielded ops a.tmps) = true := by simp [Region.wanted, hg]
  rw [if_pos hw]
  unfold Oper.wp
  simp only [execOp, hop, hty, resolve, invoke, builtin, Sem.run_bind, Sem.run_pure, Result.andThen_ok, List.map_toArray, List.map_cons, List.map_nil, hs, hx, hrun]
  exact hK
theorem DataAt.bld {base : Nat} {w : World} {gd k l base0 : Nat} {V : Nat → Value} {cnt : Nat → Nat} {D : Nat → Nat → Nat} (h : DataAt base w gd k V cnt D) (hc : ∀ r, r < k → cnt r = l) (hD : AllB D) (hl : l ≤ 65536) (hk : k ≤ 65536) (hb : base0 ≤ gd) : BldL base0 0 w (.slice (some ⟨gd, 0, none⟩) k k) k (fun _ => l) D := by
  obtain ⟨cs, hcb, hsz, hx⟩ := h.top
  refine ⟨valsL k V, ⟨by unfold valsL; simp, Or.inr ⟨gd, k, cs, rfl, hb, hcb, Nat.le_refl _, by unfold maxLen; omega, by omega, ?_⟩⟩, fun r hr => ⟨V r, valsL_get hr, ?_, fun q hq => ?_⟩⟩
  · refine List.ext_getElem? fun j => ?_
    rw [Nat.mul_one, List.getElem?_take]
    by_cases hj : j < k
    · rw [if_pos hj, valsL_get hj, Array.getElem?_toList]; exact hx j hj
    · rw [if_neg hj, List.getElem?_eq_none (by unfold valsL; simp; omega)]
  · have := h.row r hr
    rw [hc r hr] at this
    exact ownsRow_rowV this (show l ≤ 140737488351232 by omega) (fun c _ => hD _ _)
  · have := World.ownsRow.lt (h.row r hr) q hq
    have := h.lt
    exact ⟨by omega, fun e => by have e' : gd = q := by simpa [Value.ownBlock] using e
                                 omega, Far.zero _ _⟩
end Go.Proofs.YtlbdopcchoklhaaGreat
namespace Go.Proofs.YtlbdopcchoklhaaGreat
open Go.RowKit
set_option linter.unusedVariables false
set_option maxRecDepth 100000

/-! ### how long, so far -/
def lngZ (L : Nat → Nat) (i : Nat) : Nat := if 0 < (idx L i).length then longZ L i else 0
theorem lng_done {L : Nat → Nat} {n : Nat} (h : 0 < (idx L n).length) : lngZ L n = longZ L n := if_pos h
theorem Fits.skip {L : Nat → Nat} {i : Nat} (h : Fits L i) (h0 : ¬ 0 < L i) : Fits L (i + 1) := fun a ha a0 => by
  have ha' : a < i := by
    by_cases e : a = i
    · rw [e] at a0; exact absurd a0 h0
    · omega
  refine ⟨(h a ha' a0).1, fun b hb b0 => ?_⟩
  have hb' : b < i := by
    by_cases e : b = i
    · rw [e] at b0; exact absurd b0 h0
    · omega
  exact (h a ha' a0).2 b hb' b0
theorem Fits.lng {L : Nat → Nat} {i a : Nat} (h : Fits L i) (ha : a < i) (a0 : 0 < L a) : L a = lngZ L i := by
  have hp : 0 < (idx L i).length := List.length_pos_of_mem (idx_mem.2 ⟨ha, a0⟩)
  rw [lng_done hp]; exact h.long ha a0
theorem Fits.next {L : Nat → Nat} {i : Nat} (h : Fits L i) (h0 : 0 < L i) (h4 : L i ≤ 4096) (hl : 0 < lngZ L i → L i = lngZ L i) : Fits L (i + 1) := by
  have key : ∀ a, a < i + 1 → 0 < L a → L a = L i := fun a ha a0 => by
    by_cases e : a = i
    · rw [e]
    · have e1 := h.lng (show a < i by omega) a0
      rw [hl (by rw [← e1]; exact a0)]; exact e1
  exact fun a ha a0 => ⟨by rw [key a ha a0]; exact h4, fun b hb b0 => by rw [key a ha a0, key b hb b0]⟩
def jj (L : Nat → Nat) (k i : Nat) : Nat := min k (idx L i).length
def RDec (L : Nat → Nat) (n k : Nat) (D : Nat → Nat → Nat) (w : World) (e : Ending) (w' : World) : Prop :=
  (¬ Fits L n ∧ ErrPost 1 w e w') ∨ (Fits L n ∧ (idx L n).length < k ∧ ErrPost 9 w e w') ∨ (Fits L n ∧ k ≤ (idx L n).length ∧ MatPost n (longZ L n) (sharesZ k D) w e w')
/-- What the first loop keeps. -/
def PickAt (L : Nat → Nat) (k i : Nat) (FR Fsv : Nat → Value) (n : Nat) (w1 wr : World) (vx vy : Value) : Prop :=
  Fits L i ∧ TwoRel w1 wr vx (jj L k i) (fun r => FR (wh L n r)) vy (jj L k i) (fun r => Fsv (wh L n r))
def cntZ (c i r : Nat) : Nat := if r < i then c + 1 else c
/-- What the last loop keeps. -/
def GrowAt (base : Nat) (wp w7 wj : World) (gd g8 k c i : Nat) (D : Nat → Nat → Nat) : Prop :=
  ∃ V, DataAt base wj gd k V (cntZ c i) D ∧ Ch (fun _ => False) wp wj ∧ wj.heap[g8]? = w7.heap[g8]? ∧ (∀ r, r < k → (V r).ownBlock ≠ some g8) ∧ w7.heap.size ≤ wj.heap.size
end Go.Proofs.YtlbdopcchoklhaaGreat
namespace Go.Proofs.YtlbdopcchoklhaaGreat
open Go.RowKit
set_option linter.unusedVariables false
set_option maxRecDepth 100000

/-! ### plain -/
structure Wt where
  pl : Nat
  z : Nat → Nat
structure Dev where
  n : Nat
  has : Nat → Nat → Nat
  lost : Nat → Bool
  drops : Nat → Nat
  miss : Nat → List Nat
  W : List Wt
  dead : Bool
  armed : Bool
  left : Int
  ops : Nat
def up {α : Type} (f : Nat → α) (a : Nat) (x : α) (i : Nat) : α := if i = a then x else f i
theorem up_same {α : Type} (f : Nat → α) (a : Nat) (x : α) : up f a x a = x := if_pos rfl
theorem up_other {α : Type} (f : Nat → α) {a i : Nat} (x : α) (h : i ≠ a) : up f a x i = f i := if_neg h

/-! ### what lies in memory -/
/-- A row of at least n cells. -/
def SecsIs (w : World) (b : Nat) (t : TypeId) (n : Nat) (f : Nat → Value) : Prop :=
  ∃ c : Array Value, w.heap[b]? = some (.cells c t (0, 0)) ∧ n ≤ c.size ∧ ∀ i, i < n → c[i]? = some (f i)
namespace SecsIs
variable {w : World} {b : Nat} {t : TypeId} {n : Nat} {f g : Nat → Value}
theorem of_row (h : w.rowIs b t n f) : SecsIs w b t n f := by
  obtain ⟨c, hb, hn, hc⟩ := h
  exact ⟨c, hb, Nat.le_of_eq hn.symm, hc⟩
theorem cell (h : SecsIs w b t n f) {i : Nat} (hi : i < n) : w.cell? ⟨b, i, none⟩ = some (f i) := by
  obtain ⟨c, hb, _, hc⟩ := h
  simp [World.cell?, hb, hc i hi]
theorem frozen (h : SecsIs w b t n f) (i : Nat) : w.frozen? ⟨b, i, none⟩ = false := by
  obtain ⟨c, hb, _, _⟩ := h
  simp [World.frozen?, hb]
theorem lt (h : SecsIs w b t n f) : b < w.heap.size := by
  obtain ⟨c, hb, _, _⟩ := h
  exact (Array.getElem?_eq_some_iff.1 hb).1
theorem congr (h : SecsIs w b t n f) (e : ∀ i, i < n → f i = g i) : SecsIs w b t n g := by
  obtain ⟨c, hb, hn, hc⟩ := h
  exact ⟨c, hb, hn, fun i hi => by rw [hc i hi, e i hi]⟩
theorem of_block {w' : World} (h : SecsIs w b t n f) (e : w'.heap[b]? = w.heap[b]?) : SecsIs w' b t n f := by
  obtain ⟨c, hb, hn, hc⟩ := h
  exact ⟨c, e.trans hb, hn, hc⟩
theorem set (h : SecsIs w b t n f) (i : Nat) (v : Value) : SecsIs (w.setCell ⟨b, i, none⟩ v) b t n (fun j => if j = i then v else f j) := by
  obtain ⟨c, hb, hn, hc⟩ := h
  refine ⟨c.setIfInBounds i v, ?_, by simpa using hn, fun j hj => ?_⟩
  · simp [World.setCell, Array.getElem?_modify, hb]
  · rw [Array.getElem?_setIfInBounds]
    by_cases e : j = i
    · subst e
      rw [if_pos rfl, if_pos (by omega)]
      exact congrArg some (if_pos rfl).symm
    · rw [if_neg (fun h => e h.symm), hc j hj]
      exact congrArg some (if_neg e).symm
theorem setOther (h : SecsIs w b t n f) {a : Addr} (ha : b ≠ a.block) (v : Value) : SecsIs (w.setCell a v) b t n f := by
  refine h.of_block ?_
  simp only [World.setCell]
  rw [Array.getElem?_modify, if_neg (fun e => ha e.symm)]
end SecsIs
theorem secsIs_setCells {b : Nat} {t : TypeId} {n : Nat} : ∀ (vs : List Value) (o : Nat) (w : World) (f : Nat → Value), SecsIs w b t n f → SecsIs (w.setCells b o vs) b t n (fun i => if o ≤ i ∧ i < o + vs.length then vs[i - o]?.getD default else f i)
  | [], o, w, f, h => h.congr fun i _ => by rw [if_neg (by simp only [List.length_nil]; omega)]
  | v :: r, o, w, f, h => (secsIs_setCells r (o + 1) _ _ (h.set o v)).congr fun i _ => by
    simp only [List.length_cons]
    by_cases e : i = o
    · subst e
      rw [if_neg (by omega), if_pos rfl, if_pos (by omega), Nat.sub_self]
      rfl
    · by_cases q : o + 1 ≤ i ∧ i < o + 1 + r.length
      · rw [if_pos q, if_pos (by omega), show i - o = (i - (o + 1)) + 1 by omega, List.getElem?_cons_succ]
      · rw [if_neg q, if_neg (show ¬ (o ≤ i ∧ i < o + (r.length + 1)) by omega)]
        exact if_neg e
structure Ph where
  B : Nat
  G : Nat
  V : Value
  m : Nat → Value
  c : Nat
def secV (d : Dev) (m : Nat → Value) (a j : Nat) : Value :=
  if j < 256 then .int .u8 (d.has a j : Int) else if j = 256 then .bool (d.lost a) else if j = 257 then .int .i64 (d.drops a : Int) else m a
def wtC (x : Wt) : List Value := .int .i64 (x.pl : Int) :: bytesL 256 x.z
def wtsL (W : List Wt) : List Value := W.flatMap wtC
theorem wtC_len (x : Wt) : (wtC x).length = 257 := by unfold wtC; rw [List.length_cons, bytesL_len]
theorem wtsL_snoc (W : List Wt) (x : Wt) : wtsL (W ++ [x]) = wtsL W ++ wtC x := by unfold wtsL; simp
theorem wtsL_get : ∀ {W : List Wt} {i j : Nat} {x : Wt}, W[i]? = some x → j < 257 → (wtsL W)[i * 257 + j]? = (wtC x)[j]?
  | y :: r, 0, j, x, h, hj => by
    rw [List.getElem?_cons_zero, Option.some.injEq] at h
    subst h
    unfold wtsL
    rw [List.flatMap_cons, Nat.zero_mul, Nat.zero_add, List.getElem?_append_left (by rw [wtC_len]; exact hj)]
  | y :: r, i + 1, j, x, h, hj => by
    rw [List.getElem?_cons_succ] at h
    have := wtsL_get h hj
    unfold wtsL at this ⊢
    rw [List.flatMap_cons, List.getElem?_append_right (by rw [wtC_len]; omega), wtC_len, show (i + 1) * 257 + j - 257 = i * 257 + j by omega]
    exact this
theorem wtC_one (x : Wt) : ∀ u ∈ wtC x, u.oneCell' = true := fun u hu => by
  rcases List.mem_cons.1 hu with rfl | hu
  · rfl
  · exact bytesL_one u hu
theorem wtC_zero (x : Wt) : (wtC x)[0]? = some (.int .i64 (x.pl : Int)) := rfl
theorem wtC_succ (x : Wt) {j : Nat} (h : j < 256) : (wtC x)[j + 1]? = some (.int .u8 (x.z j : Int)) := by unfold wtC; rw [List.getElem?_cons_succ, bytesL_get h]
def MissIs (w : World) (v : Value) (l : List Nat) : Prop :=
  (v = .slice none 0 0 ∧ l = []) ∨ ∃ b o cap c, v = .slice (some ⟨b, o, none⟩) l.length cap ∧ l.length ≤ cap ∧ w.heap[b]? = some (.cells c 3 (0, 0)) ∧ o + cap ≤ c.size ∧ cap ≤ 9223372036854775807 ∧ ∀ i x : Nat, l[i]? = some x → c[o + i]? = some (.int .i64 (x : Int))
theorem MissIs.at {w : World} {v : Value} {l : List Nat} (h : MissIs w v l) {i : Nat} (hi : v.ownBlock = some i) : ∃ c, w.heap[i]? = some (.cells c 3 (0, 0)) := by
  rcases h with ⟨rfl, _⟩ | ⟨b, o, cap, c, rfl, _, hc, _⟩
  · cases hi
  · injection hi with hi
    subst hi
    exact ⟨c, hc⟩
theorem MissIs.of {w w' : World} {v : Value} {l : List Nat} (h : MissIs w v l) (k : ∀ i, v.ownBlock = some i → w'.heap[i]? = w.heap[i]?) : MissIs w' v l := by
  rcases h with h | ⟨b, o, cap, c, rfl, h1, hc, h2⟩
  · exact Or.inl h
  · exact Or.inr ⟨b, o, cap, c, rfl, h1, (k b rfl).trans hc, h2⟩
def devC (p : Ph) (d : Dev) : Array Value := #[.slice (some ⟨p.G, 0, none⟩) d.n p.c, p.V, .bool d.dead, .bool d.armed, .int .i64 d.left, .int .i64 (d.ops : Int)]
structure DevIs (base : Nat) (w : World) (p : Ph) (d : Dev) : Prop where
  blk : w.heap[p.B]? = some (.cells (devC p d) 92 (0, 0))
  sec : SecsIs w p.G 129 (d.n * 259) (fun i => secV d p.m (i / 259) (i % 259))
  wts : w.ownsRow base 95 257 p.V d.W.length (wtsL d.W)
  ms : ∀ a, a < d.n → MissIs w (p.m a) (d.miss a)
  inj : ∀ a b, a < d.n → b < d.n → ∀ i, (p.m a).ownBlock = some i → (p.m b).ownBlock = some i → a = b
  lowB : base ≤ p.B
  lowG : base ≤ p.G
  lowM : ∀ a, a < d.n → ∀ i, (p.m a).ownBlock = some i → base ≤ i
  byt : ∀ a c, a < d.n → c < 256 → d.has a c < 256
  wok : ∀ x ∈ d.W, x.pl < d.n ∧ Bytes 256 x.z
  mok : ∀ a, a < d.n → ∀ x ∈ d.miss a, x < d.n
  nn : 1 ≤ d.n ∧ d.n ≤ 4096
  lf : -9223372036854775808 ≤ d.left ∧ d.left ≤ 9223372036854775807
/-- Its blocks. -/
def Foot (p : Ph) (d : Dev) (i : Nat) : Prop := i = p.B ∨ i = p.G ∨ p.V.ownBlock = some i ∨ ∃ a, a < d.n ∧ (p.m a).ownBlock = some i
/-- The answer of a call. -/
def DPost (base : Nat) (p : Ph) (d d' : Dev) (r : Value) (w : World) (e : Ending) (w' : World) : Prop :=
  e = .returned r ∧ ∃ p', p'.B = p.B ∧ DevIs base w' p' d' ∧ (∀ i, Foot p' d' i → Foot p d i ∨ w.heap.size ≤ i) ∧ Ch (Foot p d) w w'

section
variable {base : Nat} {w w' : World} {p : Ph} {d : Dev}
theorem DevIs.foot (h : DevIs base w p d) {i : Nat} (hi : Foot p d i) : base ≤ i ∧ i < w.heap.size := by
  rcases hi with rfl | rfl | hi | ⟨a, ha, hi⟩
  · exact ⟨h.lowB, blk_lt h.blk⟩
  · exact ⟨h.lowG, h.sec.lt⟩
  · obtain ⟨hb, c, hc⟩ := own_at h.wts hi
    exact ⟨hb, blk_lt hc⟩
  · obtain ⟨c, hc⟩ := (h.ms a ha).at hi
    exact ⟨h.lowM a ha i hi, blk_lt hc⟩
theorem DevIs.ch {S : Nat → Prop} (h : DevIs base w p d) (k : Ch S w w') (hS : ∀ i, Foot p d i → ¬ S i) : DevIs base w' p d := by
  have e : ∀ i, Foot p d i → w'.heap[i]? = w.heap[i]? := fun i hi => k.block i (h.foot hi).2 (hS i hi)
  exact ⟨(e _ (Or.inl rfl)).trans h.blk, h.sec.of_block (e _ (Or.inr (Or.inl rfl))), own_of h.wts (fun i hi => e i (Or.inr (Or.inr (Or.inl hi)))),
    fun a ha => (h.ms a ha).of (fun i hi => e i (Or.inr (Or.inr (Or.inr ⟨a, ha, hi⟩)))), h.inj, h.lowB, h.lowG, h.lowM, h.byt, h.wok, h.mok, h.nn, h.lf⟩
theorem DevIs.gr (h : DevIs base w p d) (k : Ch (fun _ => False) w w') : DevIs base w' p d := h.ch k (fun _ _ f => f)
theorem DevIs.BG (h : DevIs base w p d) : p.B ≠ p.G := by
  obtain ⟨c, hc, _⟩ := h.sec
  exact cells_ne h.blk hc (by decide)
theorem DevIs.BV (h : DevIs base w p d) : p.V.ownBlock ≠ some p.B := fun e => by
  obtain ⟨_, c, hc⟩ := own_at h.wts e
  exact cells_ne h.blk hc (by decide) rfl
theorem DevIs.GV (h : DevIs base w p d) : p.V.ownBlock ≠ some p.G := fun e => by
  obtain ⟨_, c, hc⟩ := own_at h.wts e
  obtain ⟨c2, hc2, _⟩ := h.sec
  exact cells_ne hc2 hc (by decide) rfl
theorem DevIs.BM (h : DevIs base w p d) {a : Nat} (ha : a < d.n) : (p.m a).ownBlock ≠ some p.B := fun e => by
  obtain ⟨c, hc⟩ := (h.ms a ha).at e
  exact cells_ne h.blk hc (by decide) rfl
theorem DevIs.GM (h : DevIs base w p d) {a : Nat} (ha : a < d.n) : (p.m a).ownBlock ≠ some p.G := fun e => by
  obtain ⟨c, hc⟩ := (h.ms a ha).at e
  obtain ⟨c2, hc2, _⟩ := h.sec
  exact cells_ne hc2 hc (by decide) rfl
theorem DevIs.VM (h : DevIs base w p d) {a i : Nat} (ha : a < d.n) (hi : p.V.ownBlock = some i) : (p.m a).ownBlock ≠ some i := fun e => by
  obtain ⟨c, hc⟩ := (h.ms a ha).at e
  obtain ⟨_, c2, hc2⟩ := own_at h.wts hi
  exact cells_ne hc2 hc (by decide) rfl
theorem DevIs.cellB (h : DevIs base w p d) (i : Nat) : w.cell? ⟨p.B, i, none⟩ = (devC p d)[i]? := blk_cell h.blk
theorem DevIs.frB (h : DevIs base w p d) (i : Nat) : w.frozen? ⟨p.B, i, none⟩ = false := blk_frozen h.blk
theorem DevIs.frG (h : DevIs base w p d) (i : Nat) : w.frozen? ⟨p.G, i, none⟩ = false := h.sec.frozen i
theorem DevIs.cellG (h : DevIs base w p d) {a j : Nat} (ha : a < d.n) (hj : j < 259) : w.cell? ⟨p.G, a * 259 + j, none⟩ = some (secV d p.m a j) := by
  have := h.sec.cell (i := a * 259 + j) (by have := Nat.mul_le_mul_right 259 (show a + 1 ≤ d.n from ha); omega)
  rw [show (a * 259 + j) / 259 = a by omega, show (a * 259 + j) % 259 = j by omega] at this
  exact this
/-- Cells of the device's own block, and of its sectors, have turned: the rest stands. -/
theorem DevIs.turn {d' : Dev} (h : DevIs base w p d) (k : Ch (fun i => i = p.B ∨ i = p.G) w w') (hb : w'.heap[p.B]? = some (.cells (devC p d') 92 (0, 0)))
    (hs : SecsIs w' p.G 129 (d.n * 259) (fun i => secV d' p.m (i / 259) (i % 259))) (en : d'.n = d.n) (eW : d'.W = d.W) (em : d'.miss = d.miss) (hby : ∀ a c, a < d.n → c < 256 → d'.has a c < 256)
    (hlf : -9223372036854775808 ≤ d'.left ∧ d'.left ≤ 9223372036854775807) : DevIs base w' p d' := by
  have e : ∀ i, Foot p d i → i ≠ p.B → i ≠ p.G → w'.heap[i]? = w.heap[i]? := fun i hi h1 h2 => k.block i (h.foot hi).2 (fun q => q.elim h1 h2)
  refine ⟨hb, by rw [en]; exact hs, ?_, ?_, ?_, h.lowB, h.lowG, ?_, ?_, ?_, ?_, by rw [en]; exact h.nn, hlf⟩
  · rw [eW]
    exact own_of h.wts (fun i hi => e i (Or.inr (Or.inr (Or.inl hi))) (fun q => h.BV (q ▸ hi)) (fun q => h.GV (q ▸ hi)))
  · rw [en, em]
    exact fun a ha => (h.ms a ha).of (fun i hi => e i (Or.inr (Or.inr (Or.inr ⟨a, ha, hi⟩))) (fun q => h.BM ha (q ▸ hi)) (fun q => h.GM ha (q ▸ hi)))
  · rw [en]; exact h.inj
  · rw [en]; exact h.lowM
  · rw [en]; exact hby
  · rw [en, eW]; exact h.wok
  · rw [en, em]; exact h.mok
theorem DPost.turned {d' : Dev} {r : Value} (h : DevIs base w' p d') (en : d'.n = d.n) (k : Ch (Foot p d) w w') : DPost base p d d' r w (.returned r) w' :=
  ⟨rfl, p, rfl, h, fun i hi => Or.inl (by unfold Foot at hi ⊢; rwa [en] at hi), k⟩
end
end Go.Proofs.YtlbdopcchoklhaaGreat
