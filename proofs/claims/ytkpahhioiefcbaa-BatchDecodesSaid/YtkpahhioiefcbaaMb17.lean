/-
  split of a node's child, walked.
-/
import Derived.Test.YtkpahhioiefcbaaMb14
import Derived.Test.YtkpahhioiefcbaaMb16
import Derived.Shelf.Abstract
namespace Go.Proofs.Ytkpahhioiefcbaa
open Go.RowKit
set_option linter.unusedVariables false
set_option maxRecDepth 100000
set_option linter.unusedSimpArgs false

theorem FlV.back {α : Type} {K : Kf α} {w : World} {b o C : Nat} {L : List α} (h : FlV K w (some ⟨b, o, none⟩) C L) (i : Nat) (hi : i ≤ L.length) : FlV K w (some ⟨b, o + i * K.k, none⟩) (C - i) (L.drop i) :=
  ⟨by rw [List.length_drop]; have := h.le; omega, by rw [List.length_drop]; have := h.cap; omega, fun h0 => by
    rw [List.length_drop] at h0
    obtain ⟨b', o', hA, hc⟩ := h.at' (by omega)
    injection hA with hA
    injection hA with e1 e2
    subst e1 e2
    refine ⟨_, _, rfl, fun j x hx t u hu => ?_⟩
    rw [List.getElem?_drop] at hx
    have := hc (i + j) x hx t u hu
    rw [Nat.add_mul] at this
    rw [show o + i * K.k + j * K.k + t = o + (i * K.k + j * K.k) + t by omega]
    exact this⟩
theorem nd_set {w : World} {nb : Nat} {x y v : Value} {T : TypeId} (h : w.heap[nb]? = some (.cells #[x, y] T (0, 0))) : (w.setCell ⟨nb, 1, none⟩ v).heap[nb]? = some (.cells #[x, v] T (0, 0)) := by
  rw [blk_set h]; rfl
theorem nd_set0 {w : World} {nb : Nat} {x y v : Value} {T : TypeId} (h : w.heap[nb]? = some (.cells #[x, y] T (0, 0))) : (w.setCell ⟨nb, 0, none⟩ v).heap[nb]? = some (.cells #[v, y] T (0, 0)) := by
  rw [blk_set h]; rfl
theorem row_ne {α : Type} {K : Kf α} {w0 w : World} {v : Value} {L : List α} (h : FlO K w0 w v L) {nb : Nat} {c : Array Value} {T : TypeId} (hb : w.heap[nb]? = some (.cells c T (0, 0))) (hT : K.T ≠ T) {i : Nat} (hi : v.ownBlock = some i) : i ≠ nb := by
  obtain ⟨_, c', hc⟩ := own_at h hi
  exact cells_ne hc hb hT
theorem OwnN.setC {w0 w : World} {nb : Nat} {vp vc v : Value} {ps : List Kv} {cs cs2 : List Nat} (h : OwnN w0 w nb vp vc ps cs) (hv : FlO kdNd w0 w v cs2) : OwnN w0 (w.setCell ⟨nb, 1, none⟩ v) nb vp v ps cs2 := by
  have k := (Ch.refl (fun i => i = nb) w).setCell (p := ⟨nb, 1, none⟩) (Or.inl rfl) v
  exact ⟨h.lo, nd_set h.blk, h.pr.ch k fun i e => row_ne h.pr h.blk (by decide) e, hv.ch k fun i e => row_ne hv h.blk (by decide) e⟩
theorem OwnN.setP {w0 w : World} {nb : Nat} {vp vc v : Value} {ps ps2 : List Kv} {cs : List Nat} (h : OwnN w0 w nb vp vc ps cs) (hv : FlO kdPr w0 w v ps2) : OwnN w0 (w.setCell ⟨nb, 0, none⟩ v) nb v vc ps2 cs := by
  have k := (Ch.refl (fun i => i = nb) w).setCell (p := ⟨nb, 0, none⟩) (Or.inl rfl) v
  exact ⟨h.lo, nd_set0 h.blk, hv.ch k fun i e => row_ne hv h.blk (by decide) e, h.nd.ch k fun i e => row_ne h.nd h.blk (by decide) e⟩
/-- Its two rows are apart, and apart from it. -/
theorem OwnN.apart {w0 w : World} {nb : Nat} {vp vc : Value} {ps : List Kv} {cs : List Nat} (h : OwnN w0 w nb vp vc ps cs) {i : Nat} (hi : vp.ownBlock = some i) : i ≠ nb ∧ vc.ownBlock ≠ some i := by
  refine ⟨row_ne h.pr h.blk (by decide) hi, fun e => ?_⟩
  obtain ⟨_, c, hc⟩ := own_at h.pr hi
  obtain ⟨_, c', hc'⟩ := own_at h.nd e
  exact cells_ne hc hc' (by decide) rfl
theorem OwnN.apart2 {w0 w : World} {nb : Nat} {vp vc : Value} {ps : List Kv} {cs : List Nat} (h : OwnN w0 w nb vp vc ps cs) {i : Nat} (hi : vc.ownBlock = some i) : i ≠ nb ∧ vp.ownBlock ≠ some i :=
  ⟨row_ne h.nd h.blk (by decide) hi, fun e => (h.apart e).2 hi⟩
/-- What a split answers: the child's halves, new, with its middle pair between them. -/
def SplitP (w0 w : World) (nb : Nat) (vp vc : Value) (a b : List Kv) (cA cB : List Nat) (q1 q2 : List Kv) (x : Kv) (d1 d2 : List Nat) (e : Ending) (w' : World) : Prop :=
  ∃ vp' vc' lb rb, e = .returned (.tuple #[]) ∧ OwnN w0 w' nb vp' vc' (a ++ x :: b) (cA ++ lb :: rb :: cB) ∧ (∀ i, OwnS nb vp' vc' i → OwnS nb vp vc i ∨ w.heap.size ≤ i) ∧
    NdAt (fun i => w.heap.size ≤ i ∧ ¬ OwnS nb vp' vc' i) w' lb q1 d1 ∧ NdAt (fun i => w.heap.size ≤ i ∧ ¬ OwnS nb vp' vc' i) w' rb q2 d2 ∧ Ch (OwnS nb vp vc) w w'
/-- The world while a child is split: the node, the child, and the halves (with these children of theirs). -/
structure SpS (w0 w wr : World) (F : Nat → Prop) (nb : Nat) (vp vc : Value) (ps : List Kv) (cs : List Nat) (c : Nat) (A : Option Addr) (C : Nat) (A2 : Option Addr) (C2 : Nat) (qs : List Kv) (ds : List Nat) : Prop where
  own : OwnN w0 wr nb vp vc ps cs
  blk : wr.heap[c]? = some (.cells #[.slice A qs.length C, .slice A2 ds.length C2] 89 (0, 0))
  pr : FlV kdPr wr A C qs
  nd : FlV kdNd wr A2 C2 ds
  ch : Ch (fun _ => False) w wr
  own0 : w0.heap.size ≤ w.heap.size
theorem SpS.gr {w0 w wr w' : World} {F : Nat → Prop} {nb : Nat} {vp vc : Value} {ps : List Kv} {cs : List Nat} {c : Nat} {A : Option Addr} {C : Nat} {A2 : Option Addr} {C2 : Nat} {qs : List Kv} {ds : List Nat} (h : SpS w0 w wr F nb vp vc ps cs c A C A2 C2 qs ds) (k : Ch (fun _ => False) wr w') : SpS w0 w w' F nb vp vc ps cs c A C A2 C2 qs ds :=
  ⟨h.own.gr k, (k.block c (blk_lt h.blk) (fun f => f)).trans h.blk, h.pr.gr k, h.nd.gr k, h.ch.trans k, h.own0⟩
#print axioms SpS.gr
theorem SpS.cells {w0 w wr : World} {F : Nat → Prop} {nb : Nat} {vp vc : Value} {ps : List Kv} {cs : List Nat} {c : Nat} {A : Option Addr} {C : Nat} {A2 : Option Addr} {C2 : Nat} {qs : List Kv} {ds : List Nat} (h : SpS w0 w wr F nb vp vc ps cs c A C A2 C2 qs ds) : wr.cell? ⟨c, 0, none⟩ = some (.slice A qs.length C) ∧ wr.cell? ⟨c, 1, none⟩ = some (.slice A2 ds.length C2) := ⟨by rw [blk_cell h.blk]; rfl, by rw [blk_cell h.blk]; rfl⟩
/-- Two new nodes beside one another. -/
structure Two (w0 wr : World) (lb rb : Nat) (vL vLc vR vRc : Value) (q1 q2 : List Kv) (d1 d2 : List Nat) : Prop where
  l : OwnN w0 wr lb vL vLc q1 d1
  r : OwnN w0 wr rb vR vRc q2 d2
  ne : lb ≠ rb
  ch : Ch (fun _ => False) w0 wr
theorem Two.gr {w0 w w' : World} {lb rb : Nat} {vL vLc vR vRc : Value} {q1 q2 : List Kv} {d1 d2 : List Nat} (h : Two w0 w lb rb vL vLc vR vRc q1 q2 d1 d2) (k : Ch (fun _ => False) w w') : Two w0 w' lb rb vL vLc vR vRc q1 q2 d1 d2 := ⟨h.l.gr k, h.r.gr k, h.ne, h.ch.trans k⟩
theorem OwnN.other {w0 w : World} {lb rb : Nat} {vL vLc : Value} {q1 : List Kv} {d1 : List Nat} (h : OwnN w0 w lb vL vLc q1 d1) (hne : lb ≠ rb) {c : Array Value} (hr : w.heap[rb]? = some (.cells c 89 (0, 0))) (j : Nat) (v : Value) : OwnN w0 (w.setCell ⟨rb, j, none⟩ v) lb vL vLc q1 d1 := by
  have k := (Ch.refl (fun i => i = rb) w).setCell (p := ⟨rb, j, none⟩) (Or.inl rfl) v
  refine h.ch k fun i hi e => ?_
  rcases hi with rfl | hi | hi
  · exact hne e
  · exact row_ne h.pr hr (by decide) hi e
  · exact row_ne h.nd hr (by decide) hi e
theorem Two.setL {w0 w : World} {lb rb : Nat} {vL vLc vR vRc v : Value} {q1 q2 : List Kv} {d1 d2 d : List Nat} (h : Two w0 w lb rb vL vLc vR vRc q1 q2 d1 d2) (hv : FlO kdNd w0 w v d) : Two w0 (w.setCell ⟨lb, 1, none⟩ v) lb rb vL v vR vRc q1 q2 d d2 :=
  ⟨h.l.setC hv, h.r.other (Ne.symm h.ne) h.l.blk _ _, h.ne, h.ch.setCell (p := ⟨lb, 1, none⟩) (Or.inr h.l.lo) _⟩
theorem Two.setR {w0 w : World} {lb rb : Nat} {vL vLc vR vRc v : Value} {q1 q2 : List Kv} {d1 d2 d : List Nat} (h : Two w0 w lb rb vL vLc vR vRc q1 q2 d1 d2) (hv : FlO kdNd w0 w v d) : Two w0 (w.setCell ⟨rb, 1, none⟩ v) lb rb vL vLc vR v q1 q2 d1 d :=
  ⟨h.l.other h.ne h.r.blk _ _, h.r.setC hv, h.ne, h.ch.setCell (p := ⟨rb, 1, none⟩) (Or.inr h.r.lo) _⟩
/-- A new leaf. -/
theorem box_leaf {w0 w1 w2 : World} {A : Option Addr} {n C : Nat} {q : List Kv} (hc : Ch (fun _ => False) w0 w1) (hp : FlO kdPr w1 w2 (.slice A n C) q) (hc2 : Ch (fun _ => False) w1 w2) :
    OwnN w0 (w2.alloc (.cells #[.slice A n C, .slice none 0 0] 89)) w2.heap.size (.slice A n C) (.slice none 0 0) q [] ∧ Ch (fun _ => False) w0 (w2.alloc (.cells #[.slice A n C, .slice none 0 0] 89)) := by
  have k := (Ch.refl (fun _ => False) w2).alloc #[.slice A n C, .slice none 0 0] 89
  exact ⟨⟨Nat.le_trans hc.size hc2.size, heap_alloc_new w2 _, (hp.low hc.size).gr k, FlO.start kdNd w0 _⟩, (hc.trans hc2).trans k⟩
/-- A call of a function of the program's, as one step of a region that draws. -/
theorem step_calls {P : Program} {ops : Array Oper} {o : Oper} {a : Act} {w : World} {K : Act → World → Prop} {Q : Exit → Act → World → Prop} {E : Prop} (hg : o.guard = none) (f : Nat) (args : Array Operand) (ats : Array TypeId)
    (hop : o.op = .call { callee := .value (.func f), args := args, argTypes := ats }) (vs : Array Value) (hv : args.map a.eval = vs) (eg : ∀ args w, (callFunc f args).run P w = .ok (.enter f args) w) {R : Ending → World → Prop} (hc : Calls P f vs w R)
    (hR : ∀ e w', R e w' → ∃ v, e = .returned v ∧ K (a.put o.dst v) w') : if Region.wanted o (yielded ops a.tmps) = true then Oper.wp P o a w K Q else E := by
  have hw : Region.wanted o (yielded ops a.tmps) = true := by simp [Region.wanted, hg]
  rw [if_pos hw]
  have hr : (execOp a.eval o).run P w = .ok (.enter f vs) w := by
    subst hv
    unfold execOp
    simp only [hop, resolve, Act.eval]
    simp [go_sem, invoke, eg]
  unfold Oper.wp
  rw [hr]
  refine hc.mono fun e w' h => ?_
  obtain ⟨v, rfl, hk⟩ := hR e w' h
  exact hk
#print axioms step_calls
/-- Its pairs have been turned. -/
theorem OwnN.newP {w0 w w' : World} {nb : Nat} {vp vc v : Value} {ps ps2 : List Kv} {cs : List Nat} (h : OwnN w0 w nb vp vc ps cs) (hv : FlO kdPr w0 w' v ps2) (k : Ch (fun i => vp.ownBlock = some i) w w') :
    OwnN w0 (w'.setCell ⟨nb, 0, none⟩ v) nb v vc ps2 cs ∧ Ch (OwnS nb vp vc) w (w'.setCell ⟨nb, 0, none⟩ v) ∧ w'.cell? ⟨nb, 0, none⟩ = some vp ∧ w'.frozen? ⟨nb, 0, none⟩ = false := by
  have hb : w'.heap[nb]? = some (.cells #[vp, vc] 89 (0, 0)) := (k.block nb (blk_lt h.blk) fun e => (h.apart e).1 rfl).trans h.blk
  have kk := (Ch.refl (fun i => i = nb) w').setCell (p := ⟨nb, 0, none⟩) (Or.inl rfl) v
  have hn : FlO kdNd w0 w' vc cs := h.nd.ch k fun i e e2 => (h.apart e2).2 e
  exact ⟨⟨h.lo, nd_set0 hb, hv.ch kk fun i e => row_ne hv hb (by decide) e, hn.ch kk fun i e => row_ne hn hb (by decide) e⟩, ((k.mono fun i _ e => Or.inr (Or.inl e) : Ch (OwnS nb vp vc) w w')).setCell (p := ⟨nb, 0, none⟩) (Or.inl (Or.inl rfl)) v, by rw [blk_cell hb]; rfl, blk_frozen hb⟩
/-- Its children have been turned. -/
theorem OwnN.newC {w0 w w' : World} {nb : Nat} {vp vc v : Value} {ps : List Kv} {cs cs2 : List Nat} (h : OwnN w0 w nb vp vc ps cs) (hv : FlO kdNd w0 w' v cs2) (k : Ch (fun i => vc.ownBlock = some i) w w') :
    OwnN w0 (w'.setCell ⟨nb, 1, none⟩ v) nb vp v ps cs2 ∧ Ch (OwnS nb vp vc) w (w'.setCell ⟨nb, 1, none⟩ v) ∧ w'.cell? ⟨nb, 1, none⟩ = some vc ∧ w'.frozen? ⟨nb, 1, none⟩ = false := by
  have hb : w'.heap[nb]? = some (.cells #[vp, vc] 89 (0, 0)) := (k.block nb (blk_lt h.blk) fun e => (h.apart2 e).1 rfl).trans h.blk
  have kk := (Ch.refl (fun i => i = nb) w').setCell (p := ⟨nb, 1, none⟩) (Or.inl rfl) v
  have hp : FlO kdPr w0 w' vp ps := h.pr.ch k fun i e e2 => (h.apart2 e2).2 e
  exact ⟨⟨h.lo, nd_set hb, hp.ch kk fun i e => row_ne hp hb (by decide) e, hv.ch kk fun i e => row_ne hv hb (by decide) e⟩, ((k.mono fun i _ e => Or.inr (Or.inr e) : Ch (OwnS nb vp vc) w w')).setCell (p := ⟨nb, 1, none⟩) (Or.inl (Or.inl rfl)) v, by rw [blk_cell hb]; rfl, blk_frozen hb⟩
/-- Where the blocks of a node are that has been turned since. -/
def FarS (w w6 : World) (nb : Nat) (vp vc : Value) : Prop := ∀ i, OwnS nb vp vc i → i < w.heap.size ∨ w6.heap.size ≤ i
theorem Two.far {w w6 w7 w8 : World} {lb rb nb : Nat} {vL vLc vR vRc vp vc : Value} {q1 q2 : List Kv} {d1 d2 : List Nat} (h0 : Two w w6 lb rb vL vLc vR vRc q1 q2 d1 d2) (h : OwnN w w7 lb vL vLc q1 d1 ∧ OwnN w w7 rb vR vRc q2 d2) (hf : FarS w w6 nb vp vc) (k : Ch (OwnS nb vp vc) w7 w8) : OwnN w w8 lb vL vLc q1 d1 ∧ OwnN w w8 rb vR vRc q2 d2 :=
  ⟨h.1.ch k fun i hi hs => by
    have h1 := h0.l.at hi
    rcases hf i hs with q | q <;> omega, h.2.ch k fun i hi hs => by
    have h1 := h0.r.at hi
    rcases hf i hs with q | q <;> omega⟩
theorem FlO.lenL {α : Type} {K : Kf α} {w wr : World} {v : Value} {L : List α} (h : FlO K w wr v L) (n : Nat) (hn : n = L.length) : ∃ A C, v = .slice A n C := by
  rw [hn]; exact h.len
theorem Ch.trans2 {S T : Nat → Prop} {a b c : World} (h : Ch S a b) (k : Ch T b c) (hT : ∀ i, i < a.heap.size → T i → S i) : Ch S a c :=
  ⟨k.os.trans h.os, k.tape.trans h.tape, k.output.trans h.output, Nat.le_trans h.size k.size, fun i hi hS => (k.block i (Nat.lt_of_lt_of_le hi h.size) fun t => hS (hT i hi t)).trans (h.block i hi hS)⟩
theorem split_fin {w0 w w6 w7 w9 w10 w12 : World} {lb rb nb : Nat} {vL vLc vR vRc vp vc v8 v11 : Value} {a b ps : List Kv} {cA cB cs : List Nat} {q1 q2 : List Kv} {x : Kv} {d1 d2 : List Nat} (hTw : Two w w6 lb rb vL vLc vR vRc q1 q2 d1 d2) (hd : d1.length ≤ 200 ∧ d2.length ≤ 200) (hq : q1.length + q2.length ≤ 100)
    (hO0 : OwnN w0 w nb vp vc ps cs) (k7 : Ch (fun _ => False) w6 w7) (k9 : Ch (OwnS nb vp vc) w7 w9) (hb8 : v8.ownBlock = vp.ownBlock ∨ ∀ i, v8.ownBlock = some i → w7.heap.size ≤ i) (k10 : Ch (fun _ => False) w9 w10) (k12 : Ch (OwnS nb v8 vc) w10 w12) (hown : OwnN w0 w12 nb v8 v11 (a ++ x :: b) (cA ++ lb :: rb :: cB)) (hb11 : v11.ownBlock = vc.ownBlock ∨ ∀ i, v11.ownBlock = some i → w10.heap.size ≤ i) :
    SplitP w0 w nb vp vc a b cA cB q1 q2 x d1 d2 (.returned (.tuple #[])) w12 := by
  have z6 := hTw.ch.size
  have z7 := k7.size
  have z9 := k9.size
  have z10 := k10.size
  have F0 : ∀ i, OwnS nb vp vc i → i < w.heap.size := fun i hi => (hO0.at hi).2
  have G8 : ∀ i, OwnS nb v8 vc i → OwnS nb vp vc i ∨ w7.heap.size ≤ i := fun i hi => by
    rcases hi with e | e | e
    · exact Or.inl (Or.inl e)
    · rcases hb8 with q | q
      · exact Or.inl (Or.inr (Or.inl (q ▸ e)))
      · exact Or.inr (q i e)
    · exact Or.inl (Or.inr (Or.inr e))
  have G11 : ∀ i, OwnS nb v8 v11 i → OwnS nb vp vc i ∨ w7.heap.size ≤ i := fun i hi => by
    rcases hi with e | e | e
    · exact Or.inl (Or.inl e)
    · exact G8 i (Or.inr (Or.inl e))
    · rcases hb11 with q | q
      · exact Or.inl (Or.inr (Or.inr (q ▸ e)))
      · have := q i e; exact Or.inr (by omega)
  have t7 := hTw.gr k7
  have t9 := hTw.far ⟨t7.l, t7.r⟩ (fun i hi => Or.inl (F0 i hi)) k9
  have t12 := hTw.far ⟨t9.1.gr k10, t9.2.gr k10⟩ (nb := nb) (vp := v8) (vc := vc) (fun i hi => (G8 i hi).imp (F0 i) fun q => by omega) k12
  have nin : ∀ i, w.heap.size ≤ i → i < w6.heap.size → ¬ OwnS nb v8 v11 i := fun i h1 h2 hi => by
    rcases G11 i hi with q | q
    · have := F0 i q; omega
    · omega
  refine ⟨v8, v11, lb, rb, rfl, hown, fun i hi => (G11 i hi).imp id fun q => by omega, t12.1.read (by omega) (by omega) fun i hi => ?_, t12.2.read (by omega) (by omega) fun i hi => ?_, ?_⟩
  · have := hTw.l.at hi
    exact ⟨this.1, nin i this.1 this.2⟩
  · have := hTw.r.at hi
    exact ⟨this.1, nin i this.1 this.2⟩
  · exact ((((hTw.ch.mono fun _ _ f => f.elim).trans (k7.mono fun _ _ f => f.elim)).trans k9).trans (k10.mono fun _ _ f => f.elim)).trans2 k12 fun i hi t => (G8 i t).resolve_right (by omega)
theorem ptr2_slice (x y : Nat) (W : World) : (Instr.buildSlice 87 2 #[(0, .pointer (some ⟨x, 0, none⟩)), (1, .pointer (some ⟨y, 0, none⟩))]).run Try.prog W = .ok (.slice (some ⟨W.heap.size, 0, none⟩) 2 2) (W.alloc (.cells #[.pointer (some ⟨x, 0, none⟩), .pointer (some ⟨y, 0, none⟩)] 36)) := by
  obtain ⟨i0, hi, hz0, hz1, hz2⟩ := info_parts kdNd_ok.inf
  refine run_buildSlice (P := Try.prog) W _ _ 2 _ _ i0 _ kdNd_ok.un hi hz0 (by rw [hz1]; simp [kdNd]) (by rw [hz1]; decide) ?_
  rw [hz1]
  have := Great.fill_whole (s := 1) (by omega) [Value.pointer (some ⟨x, 0, none⟩), .pointer (some ⟨y, 0, none⟩)] (Array.map (fun x => kdNd.z.cells[x % kdNd.z.cells.size]!) (Array.range (2 * kdNd.k))) (fun v hv => by
    simp only [List.mem_cons, List.not_mem_nil, or_false] at hv
    rcases hv with rfl | rfl <;> rfl) (by simp [kdNd])
  simpa [Value.cells, kdNd] using this
theorem pair_slice (x : Kv) (W : World) : (Instr.buildSlice 86 1 #[(0, .agg #[.string x.1, .string x.2])]).run Try.prog W = .ok (.slice (some ⟨W.heap.size, 0, none⟩) 1 1) (W.alloc (.cells #[.string x.1, .string x.2] 93)) := fl_slice kdPr_ok W x
set_option maxHeartbeats 6400000 in
theorem split_any {F : Nat → Prop} {w0 w : World} {nb : Nat} {vp vc : Value} {a b : List Kv} {cA cB : List Nat} {c : Nat} {q1 q2 : List Kv} {x : Kv} {d1 d2 : List Nat} (h : OwnN w0 w nb vp vc (a ++ b) (cA ++ c :: cB)) (hc : NdAt F w c (q1 ++ x :: q2) (d1 ++ d2)) (hF : ∀ i, F i → ¬ OwnS nb vp vc i)
    (hl : a.length = cA.length) (hab : a.length + b.length ≤ 100) (hcb : cB.length ≤ 100) (hq : q1.length = (q1.length + q2.length + 1) / 2) (hq2 : 0 < q2.length) (hqm : q1.length + q2.length ≤ 100) (hw0 : w0.heap.size ≤ w.heap.size) (hd : (d1 = [] ∧ d2 = []) ∨ (d1.length = q1.length + 1 ∧ d2.length = q2.length + 1)) :
    Calls Try.prog 59 #[.pointer (some ⟨nb, 0, none⟩), .int .i64 (a.length : Int)] w (SplitP w0 w nb vp vc a b cA cB q1 q2 x d1 d2) := by
  obtain ⟨hFc, A, C, A2, C2, hb, hp, hn⟩ := hc
  obtain ⟨Ap, Cp, rfl⟩ := h.pr.len
  obtain ⟨pl, hpl⟩ : ∃ pl, pl = (a ++ b).length := ⟨_, rfl⟩
  rw [← hpl] at h hF ⊢
  clear hpl
  have hS0 : SpS w0 w w F nb (.slice Ap pl Cp) vc (a ++ b) (cA ++ c :: cB) c A C A2 C2 (q1 ++ x :: q2) (d1 ++ d2) := ⟨h, hb, hp.v, hn.v, Ch.refl _ _, hw0⟩
  have hql : (q1 ++ x :: q2).length = q1.length + q2.length + 1 := by simp only [List.length_append, List.length_cons]; omega
  obtain ⟨g, o, rfl, _⟩ := hp.v.at' (by rw [hql]; omega)
  obtain ⟨Ac, Cc, rfl, hrc⟩ := own_row kdNd_ok h.nd (by simp; omega) (F := fun _ => True) fun _ _ => trivial
  obtain ⟨gc, oc, rfl, hcc⟩ := hrc.v.at' (by simp only [List.length_append, List.length_cons]; omega)
  have e1 : w.cell? ⟨nb, 1, none⟩ = some (.slice (some ⟨gc, oc, none⟩) (cA ++ c :: cB).length Cc) := by rw [blk_cell h.blk]; rfl
  have e2 : w.cell? ⟨gc, oc + a.length, none⟩ = some (.pointer (some ⟨c, 0, none⟩)) := by
    have := hcc a.length c (by rw [hl, List.getElem?_append_right (Nat.le_refl _)]; simp) 0 _ rfl
    rw [show kdNd.k = 1 from rfl, Nat.mul_one] at this; exact this
  obtain ⟨e3, e4⟩ := hS0.cells
  have hpc := hp.v.cap
  have hnc := hn.v.cap
  rw [hql] at e3 hpc
  obtain ⟨i, hi⟩ : ∃ i, i = a.length := ⟨_, rfl⟩
  obtain ⟨t, ht⟩ : ∃ t, t = (cA ++ c :: cB).length := ⟨_, rfl⟩
  obtain ⟨N, hN⟩ : ∃ N, N = q1.length + q2.length + 1 := ⟨_, rfl⟩
  obtain ⟨M, hM⟩ : ∃ M, M = q1.length := ⟨_, rfl⟩
  obtain ⟨D, hD⟩ : ∃ D, D = (d1 ++ d2).length := ⟨_, rfl⟩
  rw [← hD] at e4
  rw [← hN] at e3
  rw [← hi] at e2
  rw [← hi]
  have ht' : t = cA.length + 1 + cB.length := by rw [ht]; simp; omega
  rw [← ht] at e1 ⊢
  have i0 : (0 : Int) ≤ (i : Int) := Int.natCast_nonneg _
  have i1 : (i : Int) < (t : Int) := by omega
  have n0 : (0 : Int) ≤ (N : Int) := Int.natCast_nonneg _
  have n1 : (N : Int) / 2 = (M : Int) := by omega
  have n2 : (N : Int) ≤ 101 := by omega
  have m0 : (0 : Int) ≤ (M : Int) := Int.natCast_nonneg _
  have m1 : (M : Int) + 1 < (N : Int) := by omega
  have m2 : (M : Int) ≤ (C : Int) := by omega
  have m3 : ¬ C = M + 1 := by omega
  have m4 : ((M : Int) + 1).toNat = M + 1 := by omega
  have m5 : (0 : Int) ≤ (M : Int) + 1 := by omega
  have hcp1 : ∀ w', Ch (fun _ => False) w w' → Calls Try.prog 65 #[.slice (some ⟨g, o, none⟩) M C] w' (RowS kdPr w' M q1) := fun w' k => by
    have h1 := (hS0.gr k).pr.front q1.length
    rw [List.take_left] at h1
    rw [hM]
    exact (clonePr_any _ C q1 w' h1).mono fun e w2 q => q.form
  have hcp2 : ∀ w', Ch (fun _ => False) w w' → Calls Try.prog 65 #[.slice (some ⟨g, o + (M + 1) * 2, none⟩) (N - (M + 1)) (C - (M + 1))] w' (RowS kdPr w' q2.length q2) := fun w' k => by
    have h1 := (hS0.gr k).pr.back (M + 1) (by rw [hql]; omega)
    have ed : (q1 ++ x :: q2).drop (M + 1) = q2 := by rw [hM, List.drop_append]; simp
    rw [ed] at h1
    have el : N - (M + 1) = q2.length := by omega
    rw [el]
    exact (clonePr_any _ _ q2 w' h1).mono fun e w2 q => q.form
  have hcl : ∀ w', Ch (fun _ => False) w w' → w'.cell? ⟨c, 0, none⟩ = some (.slice (some ⟨g, o, none⟩) N C) ∧ w'.cell? ⟨c, 1, none⟩ = some (.slice A2 D C2) := fun w' k => ⟨k.cell e3 (fun f => f), k.cell e4 (fun f => f)⟩
  have hFg : F g := hp.f (by simp) g o rfl
  have HGS := Lib.hid (And.intro (fun e : (Value.slice Ap pl Cp).ownBlock = some c => hF c hFc (Or.inr (Or.inl e))) (fun e : (Value.slice Ap pl Cp).ownBlock = some g => hF g hFg (Or.inr (Or.inl e))))
  have m6 : (M : Int) < (N : Int) := by omega
  have HS0 := Lib.hid hS0
  have HN := Lib.hid (And.intro hN hM)
  have HD := Lib.hid hD
  have HT := Lib.hid (And.intro hi ht)
  have HC1 := Lib.hid hcp1
  have HC2 := Lib.hid hcp2
  have HCL := Lib.hid hcl
  clear hb hp hn h hrc hcc hpc hnc hi ht hN hM hD hS0 ht' hcp1 hcp2 hcl
  go_enter Try.func59, Try.ntmps59
  go_wp2_with fail
  refine (HC1.out _ (Ch.refl _ w)).mono ?_
  rintro e w1 ⟨Al, Cl, rfl, hL, hk1⟩
  have hb1 := box_leaf (Ch.refl _ w) hL hk1
  obtain ⟨f3, f4⟩ := HCL.out _ hk1
  obtain ⟨f5, f6⟩ := HCL.out _ hb1.2
  have HB1 := Lib.hid hb1
  clear hb1 hL hk1 e1 e2 e3 e4
  go_wp2_with fail
  have hb1 := HB1.out
  clear HB1
  obtain ⟨lb, hlb⟩ : ∃ lb, lb = w1.heap.size := ⟨_, rfl⟩
  obtain ⟨w2, hw2⟩ : ∃ w2, w2 = w1.alloc (.cells #[.slice Al M Cl, .slice none 0 0] 89) := ⟨_, rfl⟩
  rw [← hlb, ← hw2] at hb1 ⊢
  clear f3 f4 f5 f6 hw2 hlb
  refine (HC2.out _ hb1.2).mono ?_
  rintro e w3 ⟨Ar, Cr, rfl, hR, hk3⟩
  have hb3 := box_leaf hb1.2 hR hk3
  have hne : lb ≠ w3.heap.size := fun e => by
    have h1 := blk_lt hb1.1.blk
    have h2 := hk3.size
    omega
  have k13 := hk3.trans ((Ch.refl (fun _ => False) w3).alloc #[.slice Ar q2.length Cr, .slice none 0 0] 89)
  have hTw : Two w (w3.alloc (.cells #[.slice Ar q2.length Cr, .slice none 0 0] 89)) lb w3.heap.size _ _ _ _ q1 q2 [] [] := ⟨hb1.1.gr k13, hb3.1, hne, hb3.2⟩
  obtain ⟨f3, f4⟩ := HCL.out _ (hb1.2.trans hk3)
  obtain ⟨f5, f6⟩ := HCL.out _ hb3.2
  have HTW := Lib.hid hTw
  clear hb1 hb3 hR hk3 hne k13 hTw
  rcases hd with ⟨hd1, hd2⟩ | ⟨hd1, hd2⟩
  · have D0 : D = 0 := by rw [HD.out, hd1, hd2]; rfl
    subst D0
    go_wp2_with fail
    obtain ⟨w6, hw6⟩ : ∃ w6, w6 = w3.alloc (.cells #[.slice Ar q2.length Cr, .slice none 0 0] 89) := ⟨_, rfl⟩
    obtain ⟨rb, hrb⟩ : ∃ rb, rb = w3.heap.size := ⟨_, rfl⟩
    obtain ⟨vL, hvL⟩ : ∃ v, v = Value.slice Al M Cl := ⟨_, rfl⟩
    obtain ⟨vR, hvR⟩ : ∃ v, v = Value.slice Ar q2.length Cr := ⟨_, rfl⟩
    obtain ⟨vLc, hvLc⟩ : ∃ v, v = Value.slice none 0 0 := ⟨_, rfl⟩
    obtain ⟨vRc, hvRc⟩ : ∃ v, v = Value.slice none 0 0 := ⟨_, rfl⟩
    have HTX : Hid (Two w w6 lb rb vL vLc vR vRc q1 q2 d1 d2) := Lib.hid (by rw [hw6, hrb, hvL, hvR, hd1, hd2, hvLc, hvRc]; exact HTW.out)
    rw [← hw6, ← hrb]
    clear hw6 hrb hvLc hvRc hvL hvR HTW f3 f4 f5 f6 HD
    have HDX : Hid (d1.length ≤ 200 ∧ d2.length ≤ 200) := Lib.hid (by rw [hd1, hd2]; simp)
    clear hd1 hd2
    have hT := HTX.out
    have hO := HS0.out.own.gr hT.ch
    obtain ⟨f5, f6⟩ := HCL.out _ hT.ch
    have hpp := (HS0.out.gr hT.ch).pr
    obtain ⟨g', o', hA', hpc⟩ := hpp.at' (by rw [hql]; omega)
    injection hA' with hA'
    injection hA' with eg eo
    subst eg eo
    have hxM : (q1 ++ x :: q2)[M]? = some x := by rw [HN.out.2, List.getElem?_append_right (Nat.le_refl _)]; simp
    have p0 : w6.cell? ⟨g, o + M * 2, none⟩ = some (.string x.1) := hpc M x hxM 0 _ rfl
    have p1 : w6.cell? ⟨g, o + M * 2 + 1, none⟩ = some (.string x.2) := hpc M x hxM 1 _ rfl
    have p2 : w6.cell? ⟨nb, 0, none⟩ = some (.slice Ap pl Cp) := by rw [blk_cell hO.blk]; rfl
    have hcd := (Ch.refl (fun _ => False) w6).drew
    have ha6 := (Ch.refl (fun _ => False) w6).alloc #[.string x.1, .string x.2] 93
    have ha7 := ha6.drew
    have hO7 := hO.gr ha7
    have hins := insert_any w0 (w6.alloc (.cells #[.string x.1, .string x.2] 93)).drew (.slice Ap pl Cp) a b x w6.heap.size hO7.pr (heap_alloc_new w6 _) (fun e => by have := (hO.at (Or.inr (Or.inl e))).2; omega) (by omega) (Nat.le_trans HS0.out.own0 (Nat.le_trans hT.ch.size ha7.size))
    rw [← HT.out.1] at hins
    have HIN := Lib.hid hins
    have HO7 := Lib.hid hO7
    have HA7 := Lib.hid ha7
    have HSL := pair_slice x
    obtain ⟨l8, hl8⟩ : ∃ l8, l8 = (a ++ x :: b).length := ⟨_, rfl⟩
    have HL8 := Lib.hid hl8
    clear hl8
    obtain ⟨l9, hl9⟩ : ∃ l9, l9 = (cA ++ lb :: rb :: cB).length := ⟨_, rfl⟩
    have HL9 := Lib.hid hl9
    clear hl9
    clear hins hO hO7 hpp hpc hT ha7 f6
    have p3 := ha6.cell p2 (fun f => f)
    have p4 := ha6.cell f5 (fun f => f)
    have p5 := ha6.cell p0 (fun f => f)
    have p6 := ha6.cell p1 (fun f => f)
    clear ha6
    go_region_law (refine step_calls rfl 58 _ _ rfl _ (by simp [Act.eval, Act.put]) (enters_of Try.func58 (by kernel_rfl) rfl) HIN.out ?_; rintro e w8 ⟨v8, rfl, ho8, hk8, hb8⟩; obtain ⟨A8, C8, rfl⟩ := ho8.lenL l8 HL8.out; obtain ⟨hown9, hch9, s3, s4⟩ := HO7.out.newP ho8 hk8; refine ⟨_, rfl, ?_⟩)
    all_goals (
      obtain ⟨w9, hw9⟩ : ∃ w9, w9 = w8.setCell ⟨nb, 0, none⟩ (.slice A8 l8 C8) := ⟨_, rfl⟩
      rw [← hw9] at hown9 hch9
      rw [← hw9]
      have HCH := Lib.hid hch9
      have HB8 := Lib.hid hb8
      have t1 : w9.cell? ⟨nb, 1, none⟩ = some (.slice (some ⟨gc, oc, none⟩) t Cc) := by rw [blk_cell hown9.blk, HT.out.2]; rfl
      have ha10 := (Ch.refl (fun _ => False) w9).alloc #[.pointer (some ⟨lb, 0, none⟩), .pointer (some ⟨rb, 0, none⟩)] 36
      have hO10 := hown9.gr ha10
      have hrep := repl2_any w0 (w9.alloc (.cells #[.pointer (some ⟨lb, 0, none⟩), .pointer (some ⟨rb, 0, none⟩)] 36)) _ cA cB c lb rb w9.heap.size hO10.nd (heap_alloc_new w9 _) (fun e => by have := (hown9.at (Or.inr (Or.inr e))).2; omega) (by omega) (Nat.le_trans HS0.out.own0 (Nat.le_trans HTX.out.ch.size (Nat.le_trans HA7.out.size (Nat.le_trans hch9.size ha10.size))))
      rw [← hl, ← HT.out.1, ← HT.out.2] at hrep
      have hrep2 : Calls Try.prog 70 #[.slice (some ⟨gc, oc, none⟩) t Cc, .int .i64 (i : Int), .int .i64 ((i : Int) + 1), .slice (some ⟨w9.heap.size, 0, none⟩) 2 2] (w9.alloc (.cells #[.pointer (some ⟨lb, 0, none⟩), .pointer (some ⟨rb, 0, none⟩)] 36)) (InsP kdNd w0 (w9.alloc (.cells #[.pointer (some ⟨lb, 0, none⟩), .pointer (some ⟨rb, 0, none⟩)] 36)) (.slice (some ⟨gc, oc, none⟩) t Cc) (cA ++ lb :: rb :: cB)) := hrep
      have HREP := Lib.hid hrep2
      have HO10 := Lib.hid hO10
      have HA10 := Lib.hid ha10
      have i2 : (i : Int) ≤ 100 := by have := HT.out.1; omega
      clear hown9 hch9 s3 s4 ho8 hk8 hb8 p0 p1 p2 p3 p4 p5 p6 f5 hxM hcd HSL hO10 hrep hrep2 hw9 ha10
      go_wp2_with fail
      refine HREP.out.mono ?_
      rintro e w11 ⟨v11, rfl, ho11, hk11, hb11⟩
      obtain ⟨A11, C11, rfl⟩ := ho11.lenL l9 HL9.out
      obtain ⟨hown12, hch12, s5, s6⟩ := HO10.out.newC ho11 hk11
      have HFIN := Lib.hid (split_fin HTX.out HDX.out hqm HS0.out.own HA7.out HCH.out HB8.out HA10.out hch12 hown12 hb11)
      clear hown12 hch12 ho11 hk11 hb11 t1
      go_wp2_with fail
      go_end0
      exact HFIN.out)
  · obtain ⟨g2, o2, rfl, _⟩ := HS0.out.nd.at' (by rw [List.length_append]; omega)
    have hD := HD.out
    have hcap := HS0.out.nd.cap
    rw [List.length_append] at hD hcap
    have hdn1 : ∀ w', Ch (fun _ => False) w w' → Calls Try.prog 66 #[.slice (some ⟨g2, o2, none⟩) (M + 1) C2] w' (RowS kdNd w' (M + 1) d1) := fun w' k => by
      have h1 := (HS0.out.gr k).nd.front d1.length
      rw [List.take_left] at h1
      rw [HN.out.2, ← hd1]
      exact (cloneNd_any _ C2 d1 w' h1).mono fun e w2 q => q.form
    have hdn2 : ∀ w', Ch (fun _ => False) w w' → Calls Try.prog 66 #[.slice (some ⟨g2, o2 + (M + 1), none⟩) (D - (M + 1)) (C2 - (M + 1))] w' (RowS kdNd w' d2.length d2) := fun w' k => by
      have h1 := (HS0.out.gr k).nd.back d1.length (by rw [List.length_append]; omega)
      rw [List.drop_left, show kdNd.k = 1 from rfl, Nat.mul_one] at h1
      have el : D - (M + 1) = d2.length := by have := HN.out.2; omega
      rw [el, HN.out.2, ← hd1]
      exact (cloneNd_any _ _ d2 w' h1).mono fun e w2 q => q.form
    have hM := HN.out.2
    have D0 : (0 : Int) < (D : Int) := by omega
    have D1 : (M : Int) + 1 ≤ (D : Int) := by omega
    have D2 : (M : Int) + 1 ≤ (C2 : Int) := by omega
    have D3 : ¬ C2 = M + 1 := by omega
    have D4 : (D : Int) ≤ 200 := by omega
    have HD1 := Lib.hid hdn1
    have HD2 := Lib.hid hdn2
    have HDL := Lib.hid (And.intro hd1 hd2)
    clear hdn1 hdn2 hcap hD hM hd1 hd2
    obtain ⟨w4, hw4⟩ : ∃ w4, w4 = w3.alloc (.cells #[.slice Ar q2.length Cr, .slice none 0 0] 89) := ⟨_, rfl⟩
    obtain ⟨rb, hrb⟩ : ∃ rb, rb = w3.heap.size := ⟨_, rfl⟩
    have HTX := Lib.hid (show Two w w4 lb rb (.slice Al M Cl) (.slice none 0 0) (.slice Ar q2.length Cr) (.slice none 0 0) q1 q2 [] [] by rw [hw4, hrb]; exact HTW.out)
    go_wp2_with fail
    rw [← hw4, ← hrb]
    clear hw4 hrb HTW f3 f4 f5 f6
    refine (HD1.out _ HTX.out.ch).mono ?_
    rintro e w5 ⟨An, Cn, rfl, hn1, hk5⟩
    have hT5 := HTX.out.gr hk5
    obtain ⟨g5, g6⟩ := HCL.out _ hT5.ch
    have hT6 := hT5.setL (hn1.low HTX.out.ch.size)
    obtain ⟨g7, g8⟩ := HCL.out _ hT6.ch
    have s1 : w5.cell? ⟨lb, 1, none⟩ = some (.slice none 0 0) := by rw [blk_cell hT5.l.blk]; rfl
    have s2 : w5.frozen? ⟨lb, 1, none⟩ = false := blk_frozen hT5.l.blk
    have HT6 := Lib.hid hT6
    clear hT5 hT6 hn1 hk5 HTX
    go_wp2_with fail
    refine (HD2.out _ HT6.out.ch).mono ?_
    rintro e w7 ⟨Am, Cm, rfl, hm1, hk7⟩
    clear s1 s2 g5 g6 g7 g8
    have hT7 := HT6.out.gr hk7
    obtain ⟨g5, g6⟩ := HCL.out _ hT7.ch
    have hT8 := hT7.setR (hm1.low HT6.out.ch.size)
    obtain ⟨g7, g8⟩ := HCL.out _ hT8.ch
    have s1 : w7.cell? ⟨rb, 1, none⟩ = some (.slice none 0 0) := by rw [blk_cell hT7.r.blk]; rfl
    have s2 : w7.frozen? ⟨rb, 1, none⟩ = false := blk_frozen hT7.r.blk
    have HT8 := Lib.hid hT8
    clear hT7 hT8 hm1 hk7 HT6
    go_wp2_with fail
    obtain ⟨w6, hw6⟩ : ∃ w6, w6 = w7.setCell ⟨rb, 1, none⟩ (.slice Am d2.length Cm) := ⟨_, rfl⟩
    obtain ⟨vL, hvL⟩ : ∃ v, v = Value.slice Al M Cl := ⟨_, rfl⟩
    obtain ⟨vR, hvR⟩ : ∃ v, v = Value.slice Ar q2.length Cr := ⟨_, rfl⟩
    obtain ⟨vLc, hvLc⟩ : ∃ v, v = Value.slice An (M + 1) Cn := ⟨_, rfl⟩
    obtain ⟨vRc, hvRc⟩ : ∃ v, v = Value.slice Am d2.length Cm := ⟨_, rfl⟩
    have HTX : Hid (Two w w6 lb rb vL vLc vR vRc q1 q2 d1 d2) := Lib.hid (by rw [hw6, hvL, hvR, hvLc, hvRc]; exact HT8.out)
    rw [← hw6]
    have HDX : Hid (d1.length ≤ 200 ∧ d2.length ≤ 200) := Lib.hid (by have := HDL.out; omega)
    clear hw6 hvLc hvRc hvL hvR HT8 s1 s2 g5 g6 g7 g8 HD1 HD2 HDL HD D0 D1 D2 D3 D4
    have hT := HTX.out
    have hO := HS0.out.own.gr hT.ch
    obtain ⟨f5, f6⟩ := HCL.out _ hT.ch
    have hpp := (HS0.out.gr hT.ch).pr
    obtain ⟨g', o', hA', hpc⟩ := hpp.at' (by rw [hql]; omega)
    injection hA' with hA'
    injection hA' with eg eo
    subst eg eo
    have hxM : (q1 ++ x :: q2)[M]? = some x := by rw [HN.out.2, List.getElem?_append_right (Nat.le_refl _)]; simp
    have p0 : w6.cell? ⟨g, o + M * 2, none⟩ = some (.string x.1) := hpc M x hxM 0 _ rfl
    have p1 : w6.cell? ⟨g, o + M * 2 + 1, none⟩ = some (.string x.2) := hpc M x hxM 1 _ rfl
    have p2 : w6.cell? ⟨nb, 0, none⟩ = some (.slice Ap pl Cp) := by rw [blk_cell hO.blk]; rfl
    have hcd := (Ch.refl (fun _ => False) w6).drew
    have ha6 := (Ch.refl (fun _ => False) w6).alloc #[.string x.1, .string x.2] 93
    have ha7 := ha6.drew
    have hO7 := hO.gr ha7
    have hins := insert_any w0 (w6.alloc (.cells #[.string x.1, .string x.2] 93)).drew (.slice Ap pl Cp) a b x w6.heap.size hO7.pr (heap_alloc_new w6 _) (fun e => by have := (hO.at (Or.inr (Or.inl e))).2; omega) (by omega) (Nat.le_trans HS0.out.own0 (Nat.le_trans hT.ch.size ha7.size))
    rw [← HT.out.1] at hins
    have HIN := Lib.hid hins
    have HO7 := Lib.hid hO7
    have HA7 := Lib.hid ha7
    have HSL := pair_slice x
    obtain ⟨l8, hl8⟩ : ∃ l8, l8 = (a ++ x :: b).length := ⟨_, rfl⟩
    have HL8 := Lib.hid hl8
    clear hl8
    obtain ⟨l9, hl9⟩ : ∃ l9, l9 = (cA ++ lb :: rb :: cB).length := ⟨_, rfl⟩
    have HL9 := Lib.hid hl9
    clear hl9
    clear hins hO hO7 hpp hpc hT ha7 f6
    have p3 := ha6.cell p2 (fun f => f)
    have p4 := ha6.cell f5 (fun f => f)
    have p5 := ha6.cell p0 (fun f => f)
    have p6 := ha6.cell p1 (fun f => f)
    clear ha6
    go_region_law (refine step_calls rfl 58 _ _ rfl _ (by simp [Act.eval, Act.put]) (enters_of Try.func58 (by kernel_rfl) rfl) HIN.out ?_; rintro e w8 ⟨v8, rfl, ho8, hk8, hb8⟩; obtain ⟨A8, C8, rfl⟩ := ho8.lenL l8 HL8.out; obtain ⟨hown9, hch9, s3, s4⟩ := HO7.out.newP ho8 hk8; refine ⟨_, rfl, ?_⟩)
    all_goals (
      obtain ⟨w9, hw9⟩ : ∃ w9, w9 = w8.setCell ⟨nb, 0, none⟩ (.slice A8 l8 C8) := ⟨_, rfl⟩
      rw [← hw9] at hown9 hch9
      rw [← hw9]
      have HCH := Lib.hid hch9
      have HB8 := Lib.hid hb8
      have t1 : w9.cell? ⟨nb, 1, none⟩ = some (.slice (some ⟨gc, oc, none⟩) t Cc) := by rw [blk_cell hown9.blk, HT.out.2]; rfl
      have ha10 := (Ch.refl (fun _ => False) w9).alloc #[.pointer (some ⟨lb, 0, none⟩), .pointer (some ⟨rb, 0, none⟩)] 36
      have hO10 := hown9.gr ha10
      have hrep := repl2_any w0 (w9.alloc (.cells #[.pointer (some ⟨lb, 0, none⟩), .pointer (some ⟨rb, 0, none⟩)] 36)) _ cA cB c lb rb w9.heap.size hO10.nd (heap_alloc_new w9 _) (fun e => by have := (hown9.at (Or.inr (Or.inr e))).2; omega) (by omega) (Nat.le_trans HS0.out.own0 (Nat.le_trans HTX.out.ch.size (Nat.le_trans HA7.out.size (Nat.le_trans hch9.size ha10.size))))
      rw [← hl, ← HT.out.1, ← HT.out.2] at hrep
      have hrep2 : Calls Try.prog 70 #[.slice (some ⟨gc, oc, none⟩) t Cc, .int .i64 (i : Int), .int .i64 ((i : Int) + 1), .slice (some ⟨w9.heap.size, 0, none⟩) 2 2] (w9.alloc (.cells #[.pointer (some ⟨lb, 0, none⟩), .pointer (some ⟨rb, 0, none⟩)] 36)) (InsP kdNd w0 (w9.alloc (.cells #[.pointer (some ⟨lb, 0, none⟩), .pointer (some ⟨rb, 0, none⟩)] 36)) (.slice (some ⟨gc, oc, none⟩) t Cc) (cA ++ lb :: rb :: cB)) := hrep
      have HREP := Lib.hid hrep2
      have HO10 := Lib.hid hO10
      have HA10 := Lib.hid ha10
      have i2 : (i : Int) ≤ 100 := by have := HT.out.1; omega
      clear hown9 hch9 s3 s4 ho8 hk8 hb8 p0 p1 p2 p3 p4 p5 p6 f5 hxM hcd HSL hO10 hrep hrep2 hw9 ha10
      go_wp2_with fail
      refine HREP.out.mono ?_
      rintro e w11 ⟨v11, rfl, ho11, hk11, hb11⟩
      obtain ⟨A11, C11, rfl⟩ := ho11.lenL l9 HL9.out
      obtain ⟨hown12, hch12, s5, s6⟩ := HO10.out.newC ho11 hk11
      have HFIN := Lib.hid (split_fin HTX.out HDX.out hqm HS0.out.own HA7.out HCH.out HB8.out HA10.out hch12 hown12 hb11)
      clear hown12 hch12 ho11 hk11 hb11 t1
      go_wp2_with fail
      go_end0
      exact HFIN.out)
end Go.Proofs.Ytkpahhioiefcbaa
