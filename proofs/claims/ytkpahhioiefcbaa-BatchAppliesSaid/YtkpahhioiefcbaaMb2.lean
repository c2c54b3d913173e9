/-
  Regions that draw their order, within a round of a range over a function: what the plain calculus shows of every order serves there, too. Blocks apart, and steps on values of many cells, said by what they make. Fences and what stands between two rounds of a range over a function: a plain region within a round, what a round keeps, blocks of a row of one's own. bytes.Clone, walked.
-/
import Derived.Test.YtkpahhioiefcbaaMb1
import Derived.RangeFuncNested
import Derived.RangeFuncBox
import Derived.RangeFuncLeaves
import Derived.RangeFuncCalls
import Derived.OwnWalkIn
import Derived.TacticsInMore
import Derived.LoopNIn
import Derived.LoopIn
import Derived.StillTail
import Derived.StillTactics
import Derived.OrdersHeld
import Derived.Deep.MidRow
import Derived.Lib.SliceRun
namespace Go.Proofs.Ytkpahhioiefcbaa
open Go.RowKit
set_option linter.unusedVariables false
set_option maxRecDepth 100000

section
variable {P : Program} {ops : Array Oper} {Q : Exit → Act → World → Prop}
theorem rowsIn_of {n : Nat} {row : String} {args : Array Value} {w : World} {R : Value → World → Prop} (h : Rows P row args w R) : RowsIn Fence.wide n P row args w R :=
  fun c cs _ => let ⟨v, w', r, s⟩ := h c cs; ⟨v, w', r, stepsIn_wide.2 s⟩
theorem operIn_of {o : Oper} {a : Act} {w : World} {K : Act → World → Prop} {l n : Nat} (hnd : ∀ c, o.op ≠ .defer c) (h : o.wp P a w K Q) : o.wpIn (Fence.wide.inRound l) n P a w K Q := by
  refine ⟨fun _ _ => trivial, ?_⟩
  rw [Fence.inRound_round, Oper.semAt_some _ _ _ hnd]
  unfold Oper.wp at h
  generalize (execOp a.eval o).run P w = r at *
  have hd : (Fence.wide.inRound l).depth.isSome = true → 1 ≤ n := fun e => by simp [Fence.wide, Fence.inRound] at e
  cases r with
  | ok x w' =>
    cases x <;> simp only [Oper.upon] at h <;> simp only [Oper.uponIn] <;> first
      | exact h
      | exact ⟨hd, (callsIn_wide.2 h).mono (fun e w'' he => by cases e <;> exact he)⟩
      | exact ⟨hd, rowsIn_of h⟩
      | exact h.elim
  | halt x w' => cases x <;> simp only [Oper.upon] at h <;> simp only [Oper.uponIn] <;> first | exact h | exact h.elim
def noDefer (ops : Array Oper) : Bool := ops.all fun o => match o.op with | .defer _ => false | _ => true
theorem noDefer_spec (h : noDefer ops = true) {j : Nat} {o : Oper} (ho : ops[j]? = some o) (c : Call) : o.op ≠ .defer c := fun e => by
  have h1 := Array.all_eq_true_iff_forall_mem.1 h o (Array.mem_of_getElem? ho)
  rw [e] at h1
  cases h1
theorem opsIn_of {l n : Nat} (hnd : noDefer ops = true) (hq : ¬ LetsOut Q) : ∀ (L : List Nat) (a : Act) (w : World), wpOps P ops Q L a w → wpOpsIn (Fence.wide.inRound l) n P ops Q L a w
  | [], _, _, h => h
  | i :: rest, a, w, h => by
    simp only [wpOps] at h
    simp only [wpOpsIn]
    cases ho : ops[i]? with
    | none => simp only [ho] at h; exact opsIn_of hnd hq rest _ _ h
    | some o =>
      simp only [ho] at h ⊢
      split
      · rename_i hw
        simp only [hw, if_true] at h
        rcases h with h | ⟨_, h⟩
        · exact operIn_of (noDefer_spec hnd ho) (Oper.wp_mono (fun a w => opsIn_of hnd hq rest a w) h)
        · exact absurd h hq
      · rename_i hw
        simp only [hw] at h
        exact ⟨fun _ _ => trivial, opsIn_of hnd hq rest _ _ h⟩
/-- In a round, whichever order. -/
theorem wpIn_round_any {id l n : Nat} {a : Act} {w : World} (hm : P.follows .mixedOrders = true) (hnd : noDefer ops = true) (hq : ¬ LetsOut Q)
    (h : wpAny P .any ops Q ops.size (Array.replicate ops.size false) a { w with drawn := w.drawn + 1 }) : (Code.region id ops true).wpIn (Fence.wide.inRound l) n P Q a w :=
  wpIn_region_draw fun t => by
    simp only [Region.schedule, hm, Bool.true_or, if_true]
    exact opsIn_of hnd hq _ _ _ (wpAny_sound ops.size t _ a _ h)
theorem wpIn_round_held {id l n : Nat} {a : Act} {w : World} (S : World → Prop) (hm : P.follows .mixedOrders = true) (hnd : noDefer ops = true) (hq : ¬ LetsOut Q)
    (h : wpAnyH P .any ops Q S ops.size (Array.replicate ops.size false) a { w with drawn := w.drawn + 1 }) : (Code.region id ops true).wpIn (Fence.wide.inRound l) n P Q a w :=
  wpIn_round_any hm hnd hq (wpAny_of_held _ _ _ _ h)
/-- In a round: a region that reads, and ends in a chain that waits for all of that. -/
theorem wpIn_round_tail {id l n : Nat} {a : Act} {w : World} {L : List Oper} (k : Nat) (hm : P.follows .mixedOrders = true) (hnd : noDefer L.toArray = true) (hq : ¬ LetsOut Q) (hB : Region.lexTailB .any L.toArray k = true)
    (h : wpStill P L.toArray { w with drawn := w.drawn + 1 } (fun a' => wpList P L.toArray Q (L.drop k) a' { w with drawn := w.drawn + 1 }) (L.take k) a) : (Code.region id L.toArray true).wpIn (Fence.wide.inRound l) n P Q a w := by
  simp only [Region.lexTailB, Bool.and_eq_true, decide_eq_true_eq] at hB
  obtain ⟨⟨⟨⟨hsel, hn⟩, hs⟩, hc⟩, hlex⟩ := hB
  have hn' : k < L.length := by simpa using hn
  have htl : (L.take k).length = k := by simp; omega
  have hdl : (L.drop k).length = L.toArray.size - k := by simp
  have inv0 : HeadInv .any L.toArray k (Array.replicate L.toArray.size false) :=
    ⟨by simp, fun j oj _ hl => (by rw [getD_replicate_false] at hl; cases hl), fun t _ ht => getD_in (by simpa using ht) (getD_replicate_false _ _)⟩
  have H := wpAnyL_lex (md := .any) (g := L.toArray.size - k) hsel hs hc hn (L.take k) 0 _ a (fun j hj => by
    have hj' : j < k := by rw [htl] at hj; exact hj
    simp [hj']) (by simpa using htl) inv0 (by rw [htl]; exact hlex) h
  refine wpIn_round_any hm hnd hq ?_
  have := wpAny_of_head (Q' := Q) (g := L.toArray.size - k) (fun listed a' hL => by
    have := wpAny_of_seq (md := .any) (Q' := Q) (L.drop k) k listed a' { w with drawn := w.drawn + 1 } (fun j => by simp [List.getElem?_drop]) (by rw [hdl]; exact hL.1) hL.2
    rwa [hdl] at this) _ _ _ H
  rw [htl, show k + (L.toArray.size - k) = L.toArray.size by omega] at this
  exact this
end
#print axioms wpIn_round_held
#print axioms wpIn_round_tail
end Go.Proofs.Ytkpahhioiefcbaa
namespace Go.Proofs.Ytkpahhioiefcbaa
open Go.RowKit
set_option linter.unusedVariables false
set_option maxRecDepth 100000

/-! ### blocks apart -/
theorem cells_ne {w : World} {i j : Nat} {c e : Array Value} {t u : TypeId} {f g : Nat × Nat} (h : w.heap[i]? = some (.cells c t f)) (k : w.heap[j]? = some (.cells e u g)) (ht : t ≠ u) : i ≠ j := fun q => by
  subst q
  rw [h] at k
  injection k with k
  injection k with _ k _
  exact ht k
theorem own_at {w : World} {base : Nat} {e : TypeId} {sz : Nat} {v : Value} {n : Nat} {xs : List Value} (h : w.ownsRow base e sz v n xs) {i : Nat} (hi : v.ownBlock = some i) : base ≤ i ∧ ∃ c, w.heap[i]? = some (.cells c e (0, 0)) := by
  rcases h.2 with ⟨rfl, _⟩ | ⟨g, cap, cur, rfl, hb, hg, _⟩
  · cases hi
  · injection hi with hi
    subst hi
    exact ⟨hb, cur, hg⟩
theorem own_of {w w' : World} {base : Nat} {e : TypeId} {sz : Nat} {v : Value} {n : Nat} {xs : List Value} (h : w.ownsRow base e sz v n xs) (k : ∀ i, v.ownBlock = some i → w'.heap[i]? = w.heap[i]?) : w'.ownsRow base e sz v n xs := by
  refine ⟨h.1, ?_⟩
  rcases h.2 with hn | ⟨g, cap, cur, rfl, hb, hg, rest⟩
  · exact Or.inl hn
  · exact Or.inr ⟨g, cap, cur, rfl, hb, (k g rfl).trans hg, rest⟩
theorem blk_frozen {w : World} {b i : Nat} {c : Array Value} {t : TypeId} (h : w.heap[b]? = some (.cells c t (0, 0))) : w.frozen? ⟨b, i, none⟩ = false := by simp [World.frozen?, h]
theorem blk_cell {w : World} {b i : Nat} {c : Array Value} {t : TypeId} {f : Nat × Nat} (h : w.heap[b]? = some (.cells c t f)) : w.cell? ⟨b, i, none⟩ = c[i]? := by simp [World.cell?, h]
theorem blk_lt {w : World} {b : Nat} {o : Obj} (h : w.heap[b]? = some o) : b < w.heap.size := (Array.getElem?_eq_some_iff.1 h).1
theorem blk_set {w : World} {b i : Nat} {c : Array Value} {t : TypeId} {f : Nat × Nat} (h : w.heap[b]? = some (.cells c t f)) (v : Value) : (w.setCell ⟨b, i, none⟩ v).heap[b]? = some (.cells (c.setIfInBounds i v) t f) := by
  simp [World.setCell, h, Array.getElem?_modify]
/-! ### values of many cells: steps, said by what they make -/
section
variable {P : Program} {ops : Array Oper} {rest : List Oper} {o : Oper} {a : Act} {Q : Exit → Act → World → Prop}
/-- (A guard: the goal is a list of steps.) -/
theorem wpList_same {l : List Oper} {w : World} (h : wpList P ops Q l a w) : wpList P ops Q l a w := h
theorem wpList_boxing (w w' : World) (hgd : o.guard = none) (t : TypeId) (x : Operand) (ho : o.op = .box t x) (cs : Array Value) (H : Nat) (hx : a.eval x = .agg cs) (hH : w.heap.size = H) (hw : w.alloc (.cells cs t) = w')
    (h : wpList P ops Q rest (a.put o.dst (.pointer (some ⟨H, 0, none⟩))) w') : wpList P ops Q (o :: rest) a w := by
  subst hH hw
  refine wpList_plain hgd fun K hK => ?_
  unfold Oper.wp execOp
  simp only [ho, hx, Sem.run_bind, Instr.box, newVar, newRow, run_newObj_alloc, Sem.run_pure, Result.andThen_ok, Value.cells]
  exact hK _ _ h
theorem wpList_making (w w' : World) (hgd : o.guard = none) (t : TypeId) (ho : o.op = .alloc t) (cs : Array Value) (H : Nat) (hz : (zeroValue t).run P w = .ok (.agg cs) w) (hH : w.heap.size = H) (hw : w.alloc (.cells cs t) = w')
    (h : wpList P ops Q rest (a.put o.dst (.pointer (some ⟨H, 0, none⟩))) w') : wpList P ops Q (o :: rest) a w := by
  subst hH hw
  refine wpList_plain hgd fun K hK => ?_
  unfold Oper.wp execOp
  simp only [ho, Sem.run_bind, Instr.alloc, hz, newVar, newRow, run_newObj_alloc, Sem.run_pure, Result.andThen_ok, Value.cells]
  exact hK _ _ h
theorem wpList_loading (w : World) (hgd : o.guard = none) (ty : TypeId) (x : Operand) (ho : o.op = .load ty x) (v : Value) (p : Addr) (hx : a.eval x = .pointer (some p)) (hr : (loadVar ty p).run P w = .ok v w)
    (h : wpList P ops Q rest (a.put o.dst v) w) : wpList P ops Q (o :: rest) a w := by
  refine wpList_plain hgd fun K hK => ?_
  unfold Oper.wp execOp
  simp only [ho, hx, Instr.loadAt, Instr.sureAddr, Sem.run_bind, Sem.run_pure, Result.andThen_ok, hr]
  exact hK _ _ h
theorem wpList_storing (w w' : World) (hgd : o.guard = none) (ty : TypeId) (x y : Operand) (ho : o.op = .store ty x y) (v : Value) (p : Addr) (hx : a.eval x = .pointer (some p)) (hy : a.eval y = v) (hr : (storeVar ty p v).run P w = .ok () w')
    (h : wpList P ops Q rest (a.put o.dst undef) w') : wpList P ops Q (o :: rest) a w := by
  refine wpList_plain hgd fun K hK => ?_
  unfold Oper.wp execOp
  simp only [ho, hx, hy, Instr.storeAt, Instr.sureAddr, Sem.run_bind, Sem.run_pure, Result.andThen_ok, hr]
  exact hK _ _ h
theorem wpList_building (w : World) (hgd : o.guard = none) (t : TypeId) (parts : Array (Nat × Operand)) (ho : o.op = .build t parts) (v : Value) (hr : (Instr.build t (parts.map fun (i, x) => (i, a.eval x))).run P w = .ok v w)
    (h : wpList P ops Q rest (a.put o.dst v) w) : wpList P ops Q (o :: rest) a w := by
  refine wpList_plain hgd fun K hK => ?_
  unfold Oper.wp execOp
  simp only [ho, Sem.run_bind, Sem.run_pure, Result.andThen_ok, hr]
  exact hK _ _ h
/-- (A guard: the step at hand is this one.) -/
theorem wpList_isOp {w : World} (op : Op) (ho : o.op = op) (h : wpList P ops Q (o :: rest) a w) : wpList P ops Q (o :: rest) a w := h
/-! ### steps of a region that draws its order -/
/-- What a load yields, wherever the variable holds that. -/
theorem exec_load {S : World → Prop} (ty : TypeId) (x : Operand) (ho : o.op = .load ty x) (v : Value) (p : Addr) (hx : a.eval x = .pointer (some p)) (hr : ∀ w, S w → (loadVar ty p).run P w = .ok v w) : ∀ w, S w → (execOp a.eval o).run P w = .ok (.value v) w := fun w hS => by
  unfold execOp
  simp only [ho, hx, Instr.loadAt, Instr.sureAddr, Sem.run_bind, Sem.run_pure, Result.andThen_ok, hr w hS]
theorem step_making {w : World} {K : Act → World → Prop} {E : Prop} (w' : World) (hgd : o.guard = none) (t : TypeId) (ho : o.op = .alloc t) (cs : Array Value) (H : Nat) (hz : (zeroValue t).run P w = .ok (.agg cs) w) (hH : w.heap.size = H) (hw : w.alloc (.cells cs t) = w')
    (hK : K (a.put o.dst (.pointer (some ⟨H, 0, none⟩))) w') : if Region.wanted o (yielded ops a.tmps) = true then Oper.wp P o a w K Q else E := by
  subst hH hw
  have hwt : Region.wanted o (yielded ops a.tmps) = true := by simp [Region.wanted, hgd]
  rw [if_pos hwt]
  unfold Oper.wp execOp
  simp only [ho, Sem.run_bind, Instr.alloc, hz, newVar, newRow, run_newObj_alloc, Sem.run_pure, Result.andThen_ok, Value.cells]
  exact hK
theorem step_storing {w : World} {K : Act → World → Prop} {E : Prop} (w' : World) (hgd : o.guard = none) (ty : TypeId) (x y : Operand) (ho : o.op = .store ty x y) (v : Value) (p : Addr) (hx : a.eval x = .pointer (some p)) (hy : a.eval y = v) (hr : (storeVar ty p v).run P w = .ok () w')
    (hK : K (a.put o.dst undef) w') : if Region.wanted o (yielded ops a.tmps) = true then Oper.wp P o a w K Q else E := by
  have hwt : Region.wanted o (yielded ops a.tmps) = true := by simp [Region.wanted, hgd]
  rw [if_pos hwt]
  unfold Oper.wp execOp
  simp only [ho, hx, hy, Instr.storeAt, Instr.sureAddr, Sem.run_bind, Sem.run_pure, Result.andThen_ok, hr]
  exact hK
end
#print axioms wpList_building
end Go.Proofs.Ytkpahhioiefcbaa
namespace Go.Proofs.Ytkpahhioiefcbaa
open Go.RowKit
set_option linter.unusedVariables false
set_option maxRecDepth 100000

theorem wide_fn (f : FuncId) : Fence.wide.fn f = True := rfl
theorem wide_depth : Fence.wide.depth = none := rfl
/-- A region that draws no order, within a round. -/
theorem wpIn_round_lit {P : Program} {Q : Exit → Act → World → Prop} {id l n : Nat} {a : Act} {w : World} {L : List Oper} (hnd : noDefer L.toArray = true) (hq : ¬ LetsOut Q) (h : wpList P L.toArray Q L a w) : (Code.region id L.toArray false).wpIn (Fence.wide.inRound l) n P Q a w :=
  wpIn_region (opsIn_of hnd hq _ a w (by rw [List.range_eq_range', ← Array.length_toList, wpOps_eq_wpList L 0 (by simp)]; exact h))
theorem keeps_ch {S : Nat → Prop} {B : Nat} {W W' : World} (h : Ch S W W') (hS : ∀ i, S i → i < B) : KeepsFrom B W W' :=
  ⟨h.size, fun k o hB hk _ => (h.block k (Array.getElem?_eq_some_iff.1 hk).1 (fun s => by have := hS k s; omega)).trans hk⟩
theorem row_ch {W W' : World} {row : Option Nat} (hg : W.grownBy W' row) : Ch (fun i => row = some i) W W' := (Ch.refl _ W).grown hg fun i e => Or.inl e
theorem ch_then {S T : Nat → Prop} {a b c : World} (h : Ch S a b) (k : Ch T b c) (hT : ∀ i, T i → S i ∨ a.heap.size ≤ i) : Ch S a c :=
  ⟨k.os.trans h.os, k.tape.trans h.tape, k.output.trans h.output, Nat.le_trans h.size k.size, fun i hi hS => (k.block i (Nat.lt_of_lt_of_le hi h.size) (fun t => (hT i t).elim hS (fun q => by omega))).trans (h.block i hi hS)⟩
theorem own_low {w : World} {base n k : Nat} {e : TypeId} {v : Value} {xs : List Value} (h : w.ownsRow base e k v n xs) : ∀ i, v.ownBlock = some i → base ≤ i := fun i q => by
  rcases h.2 with ⟨rfl, _⟩ | ⟨g, cap, cur, rfl, hb, _⟩
  · cases q
  · injection q with q; rw [← q]; exact hb
theorem own_cells {w : World} {base n k : Nat} {e : TypeId} {v : Value} {xs : List Value} (h : w.ownsRow base e k v n xs) : ∀ i, v.ownBlock = some i → ∃ c, w.heap[i]? = some (.cells c e (0, 0)) := fun i q => by
  rcases h.2 with ⟨rfl, _⟩ | ⟨g, cap, cur, rfl, hb, hg, _⟩
  · cases q
  · injection q with q; exact ⟨cur, by rw [← q]; exact hg⟩
theorem grown_ch {a b : World} (h : Ch (fun _ => False) a b) : a.grownBy b none := ⟨h.os, h.tape, h.output, h.size, fun k hk _ => h.block k hk (fun f => f)⟩
theorem grown_at {a b : World} {N : Nat} (h : Ch (fun i => i = N) a b) : a.grownBy b (some N) := ⟨h.os, h.tape, h.output, h.size, fun k hk hn => h.block k hk (fun e => hn (by rw [e]))⟩
/-- What a round leaves of the iterator's own blocks. -/
def KpX (X : Nat → Prop) (W W' : World) : Prop := ∀ i c t f, X i → W.heap[i]? = some (.cells c t f) → W'.heap[i]? = some (.cells c t f)
theorem KpX.trans {X : Nat → Prop} {A B C : World} (h : KpX X A B) (k : KpX X B C) : KpX X A C := fun i c t f hx hc => k i c t f hx (h i c t f hx hc)
theorem KpX.put {X : Nat → Prop} {l : Nat} {W : World} {o o' : Obj} (ho : W.heap[l]? = some o) (hc : o.isCells = false) : KpX X W (W.putObj l o') := fun i c t f _ h => (World.putObj_heap_other (fun e => by
  rw [e] at h; rw [h] at ho; cases ho; cases hc)).trans h
theorem KpX.of {X S : Nat → Prop} {W W' : World} (h : Ch S W W') (hX : ∀ i, X i → ¬ S i) : KpX X W W' := fun i c t f hx hc => (h.block i (Array.getElem?_eq_some_iff.1 hc).1 (hX i hx)).trans hc
theorem keeps_cells {S : Nat → Prop} {B : Nat} {W W' : World} (h : Ch S W W') (hS : ∀ i, S i → i < B ∨ ∃ c t f, W.heap[i]? = some (.cells c t f)) : KeepsFrom B W W' :=
  ⟨h.size, fun k o hB hk hc => (h.block k (Array.getElem?_eq_some_iff.1 hk).1 (fun s => by
    rcases hS k s with q | ⟨c, t, f, q⟩
    · omega
    · rw [hk] at q; cases q; cases hc)).trans hk⟩
/-- A row of one's own stands, whatever turns that is not its block. -/
theorem ownsRow_chS {S : Nat → Prop} {w w' : World} {base sz : Nat} {e : TypeId} {v : Value} {n : Nat} {xs : List Value} (h : w.ownsRow base e sz v n xs) (k : Ch S w w') (hS : ∀ i, v.ownBlock = some i → ¬ S i) : w'.ownsRow base e sz v n xs := by
  refine ⟨h.1, h.2.imp id ?_⟩
  rintro ⟨g, cap, cur, hv, hb, hg, r⟩
  exact ⟨g, cap, cur, hv, hb, (k.block g (Array.getElem?_eq_some_iff.1 hg).1 (hS g (by rw [hv]; rfl))).trans hg, r⟩
theorem ownsRow_base {w : World} {base base2 sz : Nat} {e : TypeId} {v : Value} {n : Nat} {xs : List Value} (h : w.ownsRow base e sz v n xs) (hb : base2 ≤ base) : w.ownsRow base2 e sz v n xs := by
  refine ⟨h.1, h.2.imp id ?_⟩
  rintro ⟨g, cap, cur, hv, hb2, r⟩
  exact ⟨g, cap, cur, hv, Nat.le_trans hb hb2, r⟩
/-- A variable in a block of its own is turned. -/
theorem var_set {w : World} {E : Nat} {a : Value} {t : TypeId} {f : Nat × Nat} (h : w.heap[E]? = some (.cells #[a] t f)) (v : Value) : (w.setCell ⟨E, 0, none⟩ v).heap[E]? = some (.cells #[v] t f) := blk_set (i := 0) h v
#print axioms KpX.of
end Go.Proofs.Ytkpahhioiefcbaa
namespace Go.Proofs.Ytkpahhioiefcbaa
open Go.RowKit
set_option linter.unusedVariables false
set_option maxRecDepth 100000

/-! ### a copy -/
/-- A new row, nil or not. -/
def NewL (n : Nat) (z : Nat → Nat) (w : World) (e : Ending) (w' : World) : Prop := ∃ v, e = .returned v ∧ w'.ownsRow w.heap.size /-t-/5 1 v n (bytesL n z) ∧ Ch (fun _ => False) w w'
theorem eql_nil (w : World) (a : Option Addr) (n c : Nat) : (binOp .eql /-t-/22 (.slice a n c) (.slice none 0 0)).run Try.prog w = .ok (.bool a.isNone) w := Lib.run_eql_slice_nil w _ _ a n c 0 0 Try.underlying22
set_option maxHeartbeats 400000 in
theorem clone_nil (C : Nat) (w : World) (z : Nat → Nat) : Calls Try.prog 35 #[.slice none 0 C] w (NewL 0 z w) := by
  have q := eql_nil w none 0 C
  go_enter Try.func35, Try.ntmps35
  go_wp2
  go_ret
  exact ⟨_, rfl, World.ownsRow_nil _ _ _ _, Ch.refl _ _⟩
theorem none_owned (w : World) : (w.alloc (.cells #[] /-t-/5)).ownsRow w.heap.size /-t-/5 1 (.slice (some ⟨w.heap.size, 0, none⟩) 0 0) 0 (bytesL 0 fun _ => 0) :=
  ⟨rfl, Or.inr ⟨w.heap.size, 0, #[], rfl, Nat.le_refl _, heap_alloc_new w _, Nat.le_refl _, Nat.zero_le _, rfl, rfl⟩⟩
set_option maxHeartbeats 400000 in
theorem clone_some (ad : Addr) (n C : Nat) (z : Nat → Nat) (w : World) (h : RowV w (.slice (some ad) n C) n z) (hn : n ≤ 1048576) : Calls Try.prog 35 #[.slice (some ad) n C] w (NewL n z w) := by
  have hch0 := (Ch.refl (fun _ => False) w).alloc #[] /-t-/5
  obtain ⟨v1, w1, hr1, ho1, hg1, _⟩ := app_row (z := fun _ => 0) (none_owned w) (by simp) (h.gr hch0) (by omega)
  rw [Nat.zero_add, bytesL_congr (y := z) fun c hc => by unfold jnZ; rw [if_neg (by omega)]; rfl] at ho1
  have HR := Lib.hid hr1
  have HO := Lib.hid ho1
  have HC := Lib.hid (hch0.grown hg1 (fun i e => Or.inr (World.ownsRow.lt (none_owned w) i e).1))
  clear hr1 ho1 hg1 h hch0
  have q := eql_nil w (some ad) n C
  go_enter Try.func35, Try.ntmps35
  go_wp2_with (at_builtin; refine wpList_app_of _ rfl (.tmp 5) (.tmp 6) rfl rfl _ _ v1 w1 rfl rfl HR.out ?_)
  go_ret
  exact ⟨_, rfl, HO.out, HC.out⟩
theorem clone_any (A : Option Addr) (n C : Nat) (z : Nat → Nat) (w : World) (h : RowV w (.slice A n C) n z) (hn : n ≤ 1048576) : Calls Try.prog 35 #[.slice A n C] w (NewL n z w) := by
  cases A with
  | some ad => exact clone_some ad n C z w h hn
  | none =>
    obtain ⟨_, _, e, _, h2⟩ := h
    injection e with e1 _ _
    subst e1
    rcases Nat.eq_zero_or_pos n with rfl | q
    · exact clone_nil C w z
    · obtain ⟨_, _, e, _⟩ := h2 q
      cases e
#print axioms clone_any

end Go.Proofs.Ytkpahhioiefcbaa
