/-
  Rows of elements of so many cells each (structs, texts, pointers), tto be read and of one's own: an element is a list of cells. Rows of one's own, block and all: copies, clears and appends within a row, said by what the block holds then.
-/
import Derived.Test.YtkpahhioiefcbaaMb2
import Derived.Deep.AppendLies
import Derived.Great.BuildSlice
import Derived.Great.FillDense
import Derived.Lib.AppendZerosOnto
import Derived.Lib.Overlaps
import Derived.Lib.SliceRun
namespace Go.Proofs.Ytkpahhioiefcbaa
open Go.RowKit
set_option linter.unusedVariables false
set_option maxRecDepth 100000

theorem fla_gr {w w' : World} {base : Nat} {e : TypeId} {sz : Nat} {v : Value} {n : Nat} {xs : List Value} (h : w.ownsRow base e sz v n xs) (k : Ch (fun _ => False) w w') : w'.ownsRow base e sz v n xs :=
  own_of h (fun i hi => by obtain ⟨_, c, hc⟩ := own_at h hi; exact k.block i (blk_lt hc) (fun f => f))
theorem fla_fill (cs old : Array Value) (n : Nat) (h : cs.size = n) (h2 : old.size = n) (hp : 0 < n) : Instr.fill (fun i => some (i * n, n)) old [(0, .agg cs)] = some cs := by
  have := Great.fill_whole hp [.agg cs] old (fun v hv => by rw [List.mem_singleton.1 hv]; exact h) (by simp; omega)
  simpa [Value.cells] using this
/-- A kind of elements: their type, their slices' type, how many cells and bytes each has, their zero, an element's cells. -/
structure Kf (α : Type) where
  T : TypeId
  S : TypeId
  k : Nat
  by' : Nat
  z : Value
  f : α → List Value
structure Kf.Ok {α : Type} (K : Kf α) : Prop where
  un : Try.prog.underlying K.S = some (.slice K.T)
  inf : (Try.prog.info? K.T).map (fun i => (i.zero, i.size, i.bytes)) = some (some K.z, K.k, K.by')
  zk : K.z.cells.size = K.k
  k0 : 0 < K.k
  b0 : K.by' ≤ 128
  kb : K.k ≤ 1024
  len : ∀ x, (K.f x).length = K.k
  one : ∀ x, ∀ u ∈ K.f x, u.oneCell' = true
section
variable {α : Type} {K : Kf α}
def flC (K : Kf α) (L : List α) : List Value := L.flatMap K.f
theorem flC_snoc (L : List α) (x : α) : flC K (L ++ [x]) = flC K L ++ K.f x := by simp [flC]
theorem flC_app (L M : List α) : flC K (L ++ M) = flC K L ++ flC K M := by simp [flC]
theorem flC_len (hK : K.Ok) : ∀ L : List α, (flC K L).length = L.length * K.k
  | [] => by simp [flC]
  | x :: L => by
    show (K.f x ++ flC K L).length = _
    rw [List.length_append, hK.len, flC_len hK L, List.length_cons, Nat.succ_mul, Nat.add_comm]
theorem flC_get (hK : K.Ok) : ∀ {L : List α} {i : Nat} {x : α}, L[i]? = some x → ∀ j u, (K.f x)[j]? = some u → (flC K L)[i * K.k + j]? = some u
  | [], i, x, h, _, _, _ => by simp at h
  | y :: L, 0, x, h, j, u, hu => by
    simp only [List.getElem?_cons_zero, Option.some.injEq] at h
    subst h
    show (K.f y ++ flC K L)[0 * K.k + j]? = _
    have hj : j < (K.f y).length := (List.getElem?_eq_some_iff.1 hu).1
    rw [Nat.zero_mul, Nat.zero_add, List.getElem?_append_left hj]
    exact hu
  | y :: L, i + 1, x, h, j, u, hu => by
    rw [List.getElem?_cons_succ] at h
    show (K.f y ++ flC K L)[(i + 1) * K.k + j]? = _
    have hy := hK.len y
    rw [List.getElem?_append_right (by rw [hy, Nat.add_mul]; omega), hy, show (i + 1) * K.k + j - K.k = i * K.k + j by rw [Nat.add_mul]; omega]
    exact flC_get hK h j u hu
/-- So many, one behind the other, in a row that is this one's own since w. -/
def FlO (K : Kf α) (w wr : World) (v : Value) (L : List α) : Prop := wr.ownsRow w.heap.size K.T K.k v L.length (flC K L)
theorem FlO.start (K : Kf α) (w wr : World) : FlO K w wr (.slice none 0 0) [] := World.ownsRow_nil wr w.heap.size _ _
theorem FlO.ch {S : Nat → Prop} {w wr w' : World} {v : Value} {L : List α} (h : FlO K w wr v L) (g : Ch S wr w') (hS : ∀ i, v.ownBlock = some i → ¬ S i) : FlO K w w' v L :=
  own_of h fun i hi => by
    obtain ⟨hb, c, hc⟩ := own_at h hi
    exact g.block i (blk_lt hc) (hS i hi)
theorem FlO.gr {w wr w' : World} {v : Value} {L : List α} (h : FlO K w wr v L) (g : Ch (fun _ => False) wr w') : FlO K w w' v L := h.ch g fun _ _ f => f
theorem FlO.low {w0 w wr : World} {v : Value} {L : List α} (h : FlO K w wr v L) (k : w0.heap.size ≤ w.heap.size) : FlO K w0 wr v L := by
  refine ⟨h.1, ?_⟩
  rcases h.2 with hn | ⟨g, cap, cur, rfl, hb, rest⟩
  · exact Or.inl hn
  · exact Or.inr ⟨g, cap, cur, rfl, Nat.le_trans k hb, rest⟩
theorem FlO.len {w wr : World} {v : Value} {L : List α} (h : FlO K w wr v L) : ∃ A C, v = .slice A L.length C := by
  rcases h.2 with ⟨rfl, h0⟩ | ⟨g, cap, cur, rfl, _⟩
  · exact ⟨none, 0, by rw [h0]⟩
  · exact ⟨_, _, rfl⟩
theorem FlO.lo {w wr : World} {v : Value} {L : List α} (h : FlO K w wr v L) {i : Nat} (hi : v.ownBlock = some i) : w.heap.size ≤ i ∧ i < wr.heap.size := by
  obtain ⟨hb, c, hc⟩ := own_at h hi
  exact ⟨hb, blk_lt hc⟩
/-- One more. -/
theorem FlO.app (hK : K.Ok) {w wr : World} {v : Value} {L : List α} {x : α} (h : FlO K w wr v L) (hk : L.length ≤ 1048576) (hw : w.heap.size ≤ wr.heap.size) :
    ∃ g cap w2, (Builtin.append_ #[K.S, K.S] K.S #[v, .slice (some ⟨wr.heap.size, 0, none⟩) 1 1]).run Try.prog (wr.alloc (.cells (K.f x).toArray K.T)) = .ok (.slice (some ⟨g, 0, none⟩) (L.length + 1) cap) w2 ∧ FlO K w w2 (.slice (some ⟨g, 0, none⟩) (L.length + 1) cap) (L ++ [x]) ∧ Ch (fun i => v.ownBlock = some i) wr w2 ∧ (v.ownBlock = some g ∨ wr.heap.size ≤ g) := by
  obtain ⟨i0, hi, hz0, hz1, hz2⟩ := info_parts hK.inf
  have k1 : Ch (fun _ => False) wr (wr.alloc (.cells (K.f x).toArray K.T)) := (Ch.refl _ wr).alloc _ _
  have hb0 := hK.b0
  obtain ⟨g, cap, w2, hr, h2, h3, h4, _⟩ := run_append_lies (P := Try.prog) (wr.alloc (.cells (K.f x).toArray K.T)) K.S K.S w.heap.size K.T i0 K.z K.k K.by' hK.un hi hz0 hz1 hz2 hK.zk hK.k0 v L.length (flC K L) (fla_gr h k1) ⟨wr.heap.size, 0, none⟩ 1 1 (K.f x) (by rw [hK.len, Nat.one_mul]) (fun j u hu => by
    rw [add_pl, blk_cell (heap_alloc_new wr _), Nat.zero_add, List.getElem?_toArray]
    exact hu) (hK.one x) (by omega) (by unfold maxLen; omega) (by have : (L.length + 1) * K.by' ≤ (L.length + 1) * 128 := Nat.mul_le_mul_left _ hb0; omega) (Nat.le_trans hw k1.size) _ rfl
  rw [← flC_snoc] at h2
  have k2 : Ch (fun i => v.ownBlock = some i) (wr.alloc (.cells (K.f x).toArray K.T)) w2 := (Ch.refl _ _).grown h3 (fun i hi => Or.inl hi)
  exact ⟨g, cap, w2, hr, by unfold FlO; rw [List.length_append]; exact h2, (k1.mono fun _ _ f => f.elim).trans k2, h4.imp id fun e => by rw [e]; exact k1.size⟩
/-- []T{x}. -/
theorem fl_slice (hK : K.Ok) (w : World) (x : α) : (Instr.buildSlice K.S 1 #[(0, .agg (K.f x).toArray)]).run Try.prog w = .ok (.slice (some ⟨w.heap.size, 0, none⟩) 1 1) (w.alloc (.cells (K.f x).toArray K.T)) := by
  obtain ⟨i0, hi, hz0, hz1, hz2⟩ := info_parts hK.inf
  have hl := hK.len x
  have h0 := hK.k0
  refine run_buildSlice (P := Try.prog) w _ _ 1 _ _ i0 _ hK.un hi hz0 (by rw [hz1]; have := hK.kb; omega) (by rw [hz1]; omega) ?_
  rw [hz1]
  exact fla_fill _ _ K.k (by simp [hl]) (by simp [hK.zk]) h0
/-- So many, tto be read. -/
structure FlV (K : Kf α) (w : World) (A : Option Addr) (C : Nat) (L : List α) : Prop where
  le : L.length ≤ 1048576
  cap : L.length ≤ C
  at' : 0 < L.length → ∃ b o, A = some ⟨b, o, none⟩ ∧ ∀ i x, L[i]? = some x → ∀ j u, (K.f x)[j]? = some u → w.cell? ⟨b, o + i * K.k + j, none⟩ = some u
theorem FlV.ch {S : Nat → Prop} {w w' : World} {A : Option Addr} {C : Nat} {L : List α} (h : FlV K w A C L) (k : Ch S w w') (hS : ∀ b o, A = some ⟨b, o, none⟩ → ¬ S b) : FlV K w' A C L :=
  ⟨h.le, h.cap, fun h0 => by
    obtain ⟨b, o, hA, hc⟩ := h.at' h0
    exact ⟨b, o, hA, fun i x hx j u hu => k.cell (hc i x hx j u hu) (hS b o hA)⟩⟩
theorem FlV.gr {w w' : World} {A : Option Addr} {C : Nat} {L : List α} (h : FlV K w A C L) (k : Ch (fun _ => False) w w') : FlV K w' A C L := h.ch k fun _ _ _ f => f
theorem FlO.read (hK : K.Ok) {w wr : World} {A : Option Addr} {C : Nat} {L : List α} (h : FlO K w wr (.slice A L.length C) L) (hk : L.length ≤ 1048576) : FlV K wr A C L := by
  have hC : L.length ≤ C := by
    rcases h.2 with ⟨e, h0⟩ | ⟨g, cap, cur, e, _, _, hc, _⟩
    · omega
    · injection e with _ _ e
      omega
  refine ⟨hk, hC, fun h0 => ?_⟩
  rcases h.2 with ⟨_, q⟩ | ⟨g, cap, cur, e, hb, hg, _⟩
  · omega
  · injection e with e _ _
    subst e
    refine ⟨g, 0, rfl, fun i x hx j u hu => ?_⟩
    have c0 := World.ownsRow.cells h (g := g) rfl _ _ (flC_get hK hx j u hu)
    rw [add_pl] at c0
    rw [show 0 + i * K.k + j = 0 + (i * K.k + j) by omega]
    exact c0
theorem FlV.front {w : World} {A : Option Addr} {C : Nat} {L : List α} (h : FlV K w A C L) (n : Nat) : FlV K w A C (L.take n) :=
  ⟨by rw [List.length_take]; have := h.le; omega, by rw [List.length_take]; have := h.cap; omega, fun h0 => by
    rw [List.length_take] at h0
    obtain ⟨b, o, hA, hc⟩ := h.at' (by omega)
    exact ⟨b, o, hA, fun i x hx j u hu => hc i x (by rw [List.getElem?_take] at hx; split at hx; exact hx; cases hx) j u hu⟩⟩
theorem flV_none {w : World} (K : Kf α) (A : Option Addr) (C : Nat) : FlV K w A C [] := ⟨Nat.zero_le _, Nat.zero_le _, fun h => absurd h (Nat.lt_irrefl 0)⟩
/-- An element loaded whole. -/
theorem FlV.load (hK : K.Ok) {w : World} {b o C : Nat} {L : List α} (h : FlV K w (some ⟨b, o, none⟩) C L) {i : Nat} {x : α} (hx : L[i]? = some x) {td : TypeDesc} (ht : Try.prog.underlying K.T = some td) (hr : td.isRow = true) : (loadVar K.T ⟨b, o + i * K.k, none⟩).run Try.prog w = .ok (.agg (K.f x).toArray) w := by
  obtain ⟨b', o', hA', hc⟩ := h.at' (by have := (List.getElem?_eq_some_iff.1 hx).1; omega)
  injection hA' with hA'
  injection hA' with e1 e2
  subst e1
  subst e2
  obtain ⟨i0, hi, hz0, hz1, hz2⟩ := info_parts hK.inf
  exact run_loadVar_mid w b _ _ (K.f x) td (fun j u hu => hc i x hx j u hu) ht hr (by rw [hi, hK.len]; simp [hz1])
end
/-- An append tto a row of whatever kind, by its run. -/
theorem wpList_appF {ops : Array Oper} {rest : List Oper} {o : Oper} {a : Act} {Q : Exit → Act → World → Prop} (S : TypeId) (w : World) (hgd : o.guard = none) (s x : Operand)
    (ho : o.op = .call { callee := .builtin .append, args := #[s, x], argTypes := #[S, S] }) (hty : o.type = S) (sv xv v' : Value) (w' : World) (hs : a.eval s = sv) (hx : a.eval x = xv)
    (hrun : (Builtin.append_ #[S, S] S #[sv, xv]).run Try.prog w = .ok v' w') (h : wpList Try.prog ops Q rest (a.put o.dst v') w') : wpList Try.prog ops Q (o :: rest) a w := by
  refine wpList_plain hgd fun _ hK => ?_
  unfold Oper.wp execOp
  simp only [ho, hty, resolve, invoke, builtin, Sem.run_bind, Sem.run_pure, Result.andThen_ok, List.map_toArray, List.map_cons, List.map_nil, hs, hx, hrun]
  exact hK _ _ h
theorem wpList_sliceF {P : Program} {ops : Array Oper} {rest : List Oper} {o : Oper} {a : Act} {Q : Exit → Act → World → Prop} (w w' : World) (hgd : o.guard = none) (t : TypeId) (i : Nat) (n : Nat) (x : Operand) (ho : o.op = .buildSlice t n #[(i, x)]) (u v : Value) (hx : a.eval x = u) (hr : (Instr.buildSlice t n #[(i, u)]).run P w = .ok v w')
    (h : wpList P ops Q rest (a.put o.dst v) w') : wpList P ops Q (o :: rest) a w := by
  refine wpList_plain hgd fun K hK => ?_
  unfold Oper.wp execOp
  simp only [ho, hx, Sem.run_bind, Sem.run_pure, Result.andThen_ok, hr, List.map_toArray, List.map_cons, List.map_nil]
  exact hK _ _ h
end Go.Proofs.Ytkpahhioiefcbaa
namespace Go.Proofs.Ytkpahhioiefcbaa
open Go.RowKit
set_option linter.unusedVariables false
set_option maxRecDepth 100000

section
variable {α : Type} {K : Kf α}
/-- Block g has room for cap, and begins with L. -/
structure FlG (K : Kf α) (w0 w : World) (g cap : Nat) (L : List α) (R : List Value) : Prop where
  lo : w0.heap.size ≤ g
  blk : w.heap[g]? = some (.cells (flC K L ++ R).toArray K.T (0, 0))
  le : L.length ≤ cap
  max : cap ≤ maxLen
  len : (flC K L ++ R).length = cap * K.k
theorem FlO.parts (hK : K.Ok) {w0 w : World} {v : Value} {L : List α} (h : FlO K w0 w v L) : (v = .slice none 0 0 ∧ L = []) ∨ ∃ g cap R, v = .slice (some ⟨g, 0, none⟩) L.length cap ∧ FlG K w0 w g cap L R := by
  rcases h.2 with ⟨rfl, h0⟩ | ⟨g, cap, cur, rfl, hb, hg, hn, hm, hs, ht⟩
  · exact Or.inl ⟨rfl, List.eq_nil_of_length_eq_zero h0⟩
  · refine Or.inr ⟨g, cap, cur.toList.drop (L.length * K.k), rfl, hb, ?_, hn, hm, ?_⟩
    · rw [← ht, List.take_append_drop, Array.toArray_toList]; exact hg
    · rw [← ht, List.take_append_drop, Array.length_toList]; exact hs
theorem FlG.own (hK : K.Ok) {w0 w : World} {g cap : Nat} {L : List α} {R : List Value} (h : FlG K w0 w g cap L R) : FlO K w0 w (.slice (some ⟨g, 0, none⟩) L.length cap) L := by
  refine ⟨flC_len hK L, Or.inr ⟨g, cap, _, rfl, h.lo, h.blk, h.le, h.max, by rw [List.size_toArray]; exact h.len, ?_⟩⟩
  show (flC K L ++ R).take (L.length * K.k) = _
  rw [← flC_len hK L, List.take_left]
/-- The front of it. -/
theorem FlG.front {w0 w : World} {g cap : Nat} {A B : List α} {R : List Value} (h : FlG K w0 w g cap (A ++ B) R) : FlG K w0 w g cap A (flC K B ++ R) := by
  have e : flC K (A ++ B) ++ R = flC K A ++ (flC K B ++ R) := by rw [flC_app, List.append_assoc]
  refine ⟨h.lo, e ▸ h.blk, ?_, h.max, e ▸ h.len⟩
  have := h.le
  rw [List.length_append] at this
  omega
theorem FlG.put {w0 w : World} {g cap : Nat} {L : List α} {R : List Value} (h : FlG K w0 w g cap L R) {L2 : List α} {R2 : List Value} (hl : (flC K L2 ++ R2).length = (flC K L ++ R).length) (hc : L2.length ≤ cap) : FlG K w0 (w.setRow g (flC K L2 ++ R2).toArray) g cap L2 R2 :=
  ⟨h.lo, setRow_heap w g _ _ _ _ h.blk, hc, h.max, by rw [hl]; exact h.len⟩
theorem FlG.rest (hK : K.Ok) {w0 w : World} {g cap : Nat} {L : List α} {R : List Value} (h : FlG K w0 w g cap L R) : R.length = (cap - L.length) * K.k := by
  have h1 := h.len
  rw [List.length_append, flC_len hK] at h1
  have h2 := h.le
  rw [Nat.sub_mul]; omega
theorem FlG.ch {S : Nat → Prop} {w0 w w' : World} {g cap : Nat} {L : List α} {R : List Value} (h : FlG K w0 w g cap L R) (k : Ch S w w') (hS : ¬ S g) : FlG K w0 w' g cap L R :=
  ⟨h.lo, (k.block g (blk_lt h.blk) hS).trans h.blk, h.le, h.max, h.len⟩
/-- Its cells. -/
theorem FlG.cell {w0 w : World} {g cap : Nat} {L : List α} {R : List Value} (h : FlG K w0 w g cap L R) (X cs Z : List Value) (e : flC K L ++ R = X ++ (cs ++ Z)) (o : Nat) (ho : o = X.length) (j : Nat) (u : Value) (hj : cs[j]? = some u) : w.cell? ((⟨g, o, none⟩ : Addr).add j) = some u := by
  rw [add_pl, blk_cell h.blk, List.getElem?_toArray, e, ho, List.getElem?_append_right (by omega), show X.length + j - X.length = j by omega, List.getElem?_append_left (List.getElem?_eq_some_iff.1 hj).1]
  exact hj
/-- A part of a row is copied over: what stood there is gone. -/
theorem run_copyF (hK : K.Ok) (w : World) (ty : TypeId) (g o dLen dCap sLen sCap m : Nat) (a : Addr) (X Y Z cs : List Value) (hg : w.heap[g]? = some (.cells (X ++ (Y ++ Z)).toArray K.T (0, 0))) (ho : o = X.length) (hY : Y.length = cs.length) (hm : cs.length = m * K.k) (hmin : Nat.min sLen dLen = m)
    (hsrc : ∀ j v, cs[j]? = some v → w.cell? (a.add j) = some v) (h1 : ∀ v ∈ cs, v.oneCell' = true) :
    (Builtin.copy_ #[K.S, K.S] ty #[.slice (some ⟨g, o, none⟩) dLen dCap, .slice (some a) sLen sCap]).run Try.prog w = .ok (goInt m) (w.setRow g (X ++ (cs ++ Z)).toArray) := by
  subst ho
  obtain ⟨i0, hi, hz0, hz1, hz2⟩ := info_parts hK.inf
  have hl := run_loadCells_list (P := Try.prog) w a cs hsrc
  have hst := run_storeCells_at Try.prog g X.length K.T cs 0 (X ++ (Y ++ Z)).toArray w hg (by simp only [List.size_toArray, List.length_append]; omega) h1
  have e : ((X ++ (Y ++ Z)).toArray.toList.take (X.length + 0) ++ cs ++ (X ++ (Y ++ Z)).toArray.toList.drop (X.length + 0 + cs.length)) = X ++ (cs ++ Z) := by
    show (X ++ (Y ++ Z)).take (X.length + 0) ++ cs ++ (X ++ (Y ++ Z)).drop (X.length + 0 + cs.length) = _
    rw [Nat.add_zero, List.take_left, ← hY, ← List.append_assoc X Y Z, ← List.length_append, List.drop_left, List.append_assoc]
  rw [e] at hst
  rw [hm] at hl
  simp [Builtin.copy_, run_underlying hK.un, Builtin.lenOf, Builtin.firstCells, sizeOf, typeInfo, hi, hz1, hmin, hl, hst]
/-- A part of a row is cleared. -/
theorem run_clearF (hK : K.Ok) (hz : ∀ u ∈ K.z.cells, u.oneCell' = true) (w : World) (g o n c : Nat) (X Y Z : List Value) (hg : w.heap[g]? = some (.cells (X ++ (Y ++ Z)).toArray K.T (0, 0))) (ho : o = X.length) (hY : Y.length = n * K.k) (hn : 0 < n) :
    ∃ Y2 : List Value, Y2.length = Y.length ∧ ∀ ty, (Builtin.clear_ #[K.S] ty #[.slice (some ⟨g, o, none⟩) n c]).run Try.prog w = .ok (.tuple #[]) (w.setRow g (X ++ (Y2 ++ Z)).toArray) := by
  subst ho
  obtain ⟨i0, hi, hz0, hz1, hz2⟩ := info_parts hK.inf
  have hsz : (Builtin.zeroCells K.z.cells n).toList.length = Y.length := by rw [Array.length_toList, size_zeroCells, hK.zk, hY]
  refine ⟨(Builtin.zeroCells K.z.cells n).toList, hsz, fun ty => ?_⟩
  have hst := run_storeCells_at Try.prog g X.length K.T (Builtin.zeroCells K.z.cells n).toList 0 (X ++ (Y ++ Z)).toArray w hg (by simp only [List.size_toArray, List.length_append]; omega) (fun v hv => ?_)
  · have e : ((X ++ (Y ++ Z)).toArray.toList.take (X.length + 0) ++ (Builtin.zeroCells K.z.cells n).toList ++ (X ++ (Y ++ Z)).toArray.toList.drop (X.length + 0 + (Builtin.zeroCells K.z.cells n).toList.length)) = X ++ ((Builtin.zeroCells K.z.cells n).toList ++ Z) := by
      show (X ++ (Y ++ Z)).take (X.length + 0) ++ (Builtin.zeroCells K.z.cells n).toList ++ (X ++ (Y ++ Z)).drop (X.length + 0 + (Builtin.zeroCells K.z.cells n).toList.length) = _
      rw [Nat.add_zero, List.take_left, hsz, ← List.append_assoc X Y Z, ← List.length_append, List.drop_left, List.append_assoc]
    rw [e] at hst
    obtain ⟨m, rfl⟩ : ∃ m, n = m + 1 := ⟨n - 1, by omega⟩
    simp [Builtin.clear_, run_underlying hK.un, zeroValue, typeInfo, hi, hz0, hst]
  · obtain ⟨j, hj⟩ := List.mem_iff_getElem?.1 hv
    have hz' : ∀ j v, (Builtin.zeroCells K.z.cells n)[j]? = some v → v ∈ K.z.cells := fun j v hj => by
      have hj2 := Array.mem_of_getElem? hj
      simp [Builtin.zeroCells] at hj2
      obtain ⟨i, _, rfl⟩ := hj2
      have hlt : i % K.z.cells.size < K.z.cells.size := Nat.mod_lt _ (by rw [hK.zk]; exact hK.k0)
      have e := getElem!_pos K.z.cells (i % K.z.cells.size) hlt
      rw [e]
      exact Array.getElem_mem hlt
    exact hz v (hz' j v (by rw [← Array.getElem?_toList]; exact hj))
/-- An append where there is room: the same block. -/
theorem run_appF_room (hK : K.Ok) {w0 w : World} {g cap : Nat} {A : List α} {Y Z : List Value} (h : FlG K w0 w g cap A (Y ++ Z)) (ty : TypeId) (a : Addr) (m c : Nat) (cs : List Value) (hl : cs.length = m * K.k) (hY : Y.length = cs.length) (hsrc : ∀ j u, cs[j]? = some u → w.cell? (a.add j) = some u) (h1 : ∀ u ∈ cs, u.oneCell' = true) (hroom : A.length + m ≤ cap) :
    (Builtin.append_ #[K.S, K.S] ty #[.slice (some ⟨g, 0, none⟩) A.length cap, .slice (some a) m c]).run Try.prog w = .ok (.slice (some ⟨g, 0, none⟩) (A.length + m) cap) (w.setRow g (flC K A ++ (cs ++ Z)).toArray) := by
  obtain ⟨i0, hi, hz0, hz1, hz2⟩ := info_parts hK.inf
  have hfit : A.length * i0.size + cs.length ≤ (flC K A ++ (Y ++ Z)).toArray.size := by
    rw [hz1, List.size_toArray, List.length_append, flC_len hK, List.length_append]; omega
  have hr := run_append_room (P := Try.prog) w K.S ty K.T i0 hK.un hi g A.length cap (flC K A ++ (Y ++ Z)).toArray h.blk a m c cs (by rw [hz1]; exact hl) hsrc h1 hroom hfit
  rw [hr]
  congr 3
  rw [hz1]
  show (flC K A ++ (Y ++ Z)).take (A.length * K.k) ++ cs ++ (flC K A ++ (Y ++ Z)).drop (A.length * K.k + cs.length) = _
  rw [← flC_len hK A, List.take_left, ← hY, ← List.append_assoc (flC K A) Y Z, ← List.length_append, List.drop_left, List.append_assoc]
/-- An append of a row that may be read, whatever the room. -/
theorem FlO.appV (hK : K.Ok) {w0 w : World} {v : Value} {L M : List α} (h : FlO K w0 w v L) (ty : TypeId) (A : Option Addr) (C : Nat) (hM : FlV K w A C M) (hk : L.length + M.length ≤ 1048576) (hw : w0.heap.size ≤ w.heap.size) :
    ∃ v' w', (Builtin.append_ #[K.S, K.S] ty #[v, .slice A M.length C]).run Try.prog w = .ok v' w' ∧ FlO K w0 w' v' (L ++ M) ∧ Ch (fun i => v.ownBlock = some i) w w' ∧ (v'.ownBlock = v.ownBlock ∨ v'.ownBlock = some w.heap.size) := by
  obtain ⟨i0, hi, hz0, hz1, hz2⟩ := info_parts hK.inf
  have hb0 := hK.b0
  have hone : ∀ u ∈ flC K M, u.oneCell' = true := fun u hu => by
    unfold flC at hu
    obtain ⟨x, _, hx⟩ := List.mem_flatMap.1 hu
    exact hK.one x u hx
  by_cases h0 : 0 < M.length
  · obtain ⟨b, o, rfl, hc⟩ := hM.at' h0
    have hsrc : ∀ j u, (flC K M)[j]? = some u → w.cell? ((⟨b, o, none⟩ : Addr).add j) = some u := fun j u hj => by
      have hjl : j < M.length * K.k := by rw [← flC_len hK M]; exact (List.getElem?_eq_some_iff.1 hj).1
      have hk0 := hK.k0
      have hq : j / K.k < M.length := (Nat.div_lt_iff_lt_mul hk0).2 hjl
      have hx : M[j / K.k]? = some M[j / K.k] := List.getElem?_eq_getElem hq
      have hr : j % K.k < (K.f M[j / K.k]).length := by rw [hK.len]; exact Nat.mod_lt _ hk0
      have hu : (K.f M[j / K.k])[j % K.k]? = some ((K.f M[j / K.k])[j % K.k]) := List.getElem?_eq_getElem hr
      have e1 := flC_get hK hx _ _ hu
      have ed : j / K.k * K.k + j % K.k = j := by rw [Nat.mul_comm]; exact Nat.div_add_mod j K.k
      rw [ed, hj] at e1
      injection e1 with e1
      rw [e1, add_pl]
      have := hc _ _ hx _ _ hu
      rw [show o + j / K.k * K.k + j % K.k = o + j by omega] at this
      exact this
    obtain ⟨v', w', hr, h2, h3, _, h5⟩ := run_append_own_at (P := Try.prog) w w0.heap.size K.S ty K.T i0 K.z K.k K.by' hK.un hi hz0 hz1 hz2 hK.zk hK.k0 v L.length (flC K L) h ⟨b, o, none⟩ M.length C (flC K M) (flC_len hK M) hsrc hone (by unfold maxLen; omega) (by
      have : (L.length + M.length) * K.by' ≤ (L.length + M.length) * 128 := Nat.mul_le_mul_left _ hb0; omega) hw
    rw [← flC_app, ← List.length_append] at h2
    exact ⟨v', w', hr, h2, (Ch.refl _ w).grown h3 (fun i e => Or.inl e), h5⟩
  · have hM0 : M = [] := List.eq_nil_of_length_eq_zero (by omega)
    subst hM0
    refine ⟨v, w, ?_, by rw [List.append_nil]; exact h, Ch.refl _ _, Or.inl rfl⟩
    have hle : ∃ A' n' C', v = .slice A' n' C' ∧ n' ≤ C' := by
      rcases h.2 with ⟨rfl, h0⟩ | ⟨g, cap, cur, rfl, _, _, hc, _⟩
      · exact ⟨none, 0, 0, rfl, Nat.le_refl _⟩
      · exact ⟨_, _, cap, rfl, hc⟩
    obtain ⟨A', n', C', rfl, hle⟩ := hle
    have hz' : ∀ w', (Builtin.firstCells K.k 0 (.slice A 0 C)).run Try.prog w' = .ok #[] w' := fun w' => by
      cases A with
      | none => exact run_firstCells_none w' K.k 0 0 C
      | some a => exact run_firstCells_some w' K.k 0 a 0 C [] (by simp) (fun j u hj => by simp at hj)
    have hs : Src Try.prog i0.size K.S (.slice A 0 C) 0 [] w := ⟨.inl ⟨K.T, hK.un⟩, fun _ => rfl, by rw [hz1]; exact hz' w, by rw [hz1]; exact hz' w.drew, by simp, fun u hu => by cases hu⟩
    simp [Builtin.append_, run_underlying hK.un, sizeOf, typeInfo, hi, hs.len, hle, hs.cells, storeCells]
    cases A' <;> rfl
/-- A new row behind the front of an old one: so many zeroes. -/
theorem run_growF (hK : K.Ok) (w : World) (ty tn : TypeId) (htn : Try.prog.underlying tn = some (.int .i64)) (ad : Addr) (n C m : Nat) (cs : List Value) (hl : cs.length = n * K.k) (hsrc : ∀ j u, cs[j]? = some u → w.cell? (ad.add j) = some u) (hm : 0 < m) (hC : C < n + m) (hnm : n + m ≤ 1048576) :
    ∃ cap R w', (Builtin.append_ #[K.S, tn] ty #[.slice (some ad) n C, .int .i64 (m : Int)]).run Try.prog w = .ok (.slice (some ⟨w.heap.size, 0, none⟩) (n + m) cap) w' ∧ Ch (fun _ => False) w w' ∧ w'.heap[w.heap.size]? = some (.cells (cs ++ R).toArray K.T (0, 0)) ∧ (cs ++ R).length = cap * K.k ∧ n + m ≤ cap ∧ cap ≤ maxLen := by
  obtain ⟨i0, hi, hz0, hz1, hz2⟩ := info_parts hK.inf
  have hb0 := hK.b0
  have hge := grownCap_ge w (n + m) C K.T
  have hle := grownCap_le_maxLen w (n + m) C K.T (by unfold maxLen; omega)
  have hby : (n + m) * K.by' ≤ (n + m) * 128 := Nat.mul_le_mul_left _ hb0
  have hmb : m * K.by' ≤ m * 128 := Nat.mul_le_mul_left _ hb0
  have hr := Lib.run_append_grow_zeros (P := Try.prog) w K.S tn ty K.T i0 K.z .i64 .i64 hK.un htn hi hz0 (some ad) n C cs (by
    rw [hz1]; exact run_firstCells_some w.drew K.k n ad n C cs hl (fun j u hj => hsrc j u hj)) m hm (by rw [hz1]; exact hK.k0) hC (by omega) (by rw [hz2]; omega) (by
    rw [hz2]; exact growslice_fits hC (by omega))
  refine ⟨_, (Builtin.zeroCells K.z.cells m ++ Builtin.zeroCells K.z.cells (grownCap w (n + m) C K.T - (n + m))).toList, _, hr, (Ch.refl _ w).drew.alloc _ _, ?_, ?_, hge, hle⟩
  · rw [show w.heap.size = w.drew.heap.size from rfl, heap_alloc_new]
    congr 2
    apply Array.ext'
    simp
  · rw [List.length_append, hl, Array.length_toList, Array.size_append, size_zeroCells, size_zeroCells, hK.zk, ← Nat.add_mul, ← Nat.add_mul]
    congr 1
    omega
end
#print axioms run_growF
end Go.Proofs.Ytkpahhioiefcbaa
