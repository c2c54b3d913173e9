/-
  Rows of elements of so many cells each (structs, texts, pointers), to be read and of one's own: an element is a list of cells.
-/
import Derived.Test.YtkpgaejmhddkdaaWpl
import Derived.Deep.AppendLies
import Derived.Great.BuildSlice
import Derived.Great.FillDense
namespace Go.Proofs.Ytkpgaejmhddkdaa
open Go.RowKit
set_option linter.unusedVariables false
set_option maxRecDepth 100000

theorem fla_gr {w w' : World} {base : Nat} {e : TypeId} {sz : Nat} {v : Value} {n : Nat} {xs : List Value} (h : w.ownsRow base e sz v n xs) (k : Ch (fun _ => False) w w') : w'.ownsRow base e sz v n xs :=
  own_of h (fun i hi => by obtain ⟨_, c, hc⟩ := own_at h hi; exact k.block i (blk_lt hc) (fun f => f))
theorem fla_fill (cs old : Array Value) (n : Nat) (h : cs.size = n) (h2 : old.size = n) (hp : 0 < n) : Instr.fill (fun i => some (i * n, n)) old [(0, .agg cs)] = some cs := by
  have := Great.fill_whole hp [.agg cs] old (fun v hv => by rw [List.mem_singleton.1 hv]; exact h) (by simp; omega)
  simpa [Value.cells] using this
/-- A kind of elements: their type, their slices' type, how many cells and bytes each has, their zero, an element's cells. -/
structure Kf (α : Type) where
  T : TypeId
  S : TypeId
  k : Nat
  by' : Nat
  z : Value
  f : α → List Value
structure Kf.Ok {α : Type} (K : Kf α) : Prop where
  un : Try.prog.underlying K.S = some (.slice K.T)
  inf : (Try.prog.info? K.T).map (fun i => (i.zero, i.size, i.bytes)) = some (some K.z, K.k, K.by')
  zk : K.z.cells.size = K.k
  k0 : 0 < K.k
  b0 : K.by' ≤ 128
  kb : K.k ≤ 1024
  len : ∀ x, (K.f x).length = K.k
  one : ∀ x, ∀ u ∈ K.f x, u.oneCell' = true
section
variable {α : Type} {K : Kf α}
def flC (K : Kf α) (L : List α) : List Value := L.flatMap K.f
theorem flC_snoc (L : List α) (x : α) : flC K (L ++ [x]) = flC K L ++ K.f x := by simp [flC]
theorem flC_app (L M : List α) : flC K (L ++ M) = flC K L ++ flC K M := by simp [flC]
theorem flC_len (hK : K.Ok) : ∀ L : List α, (flC K L).length = L.length * K.k
  | [] => by simp [flC]
  | x :: L => by
    show (K.f x ++ flC K L).length = _
    rw [List.length_append, hK.len, flC_len hK L, List.length_cons, Nat.succ_mul, Nat.add_comm]
theorem flC_get (hK : K.Ok) : ∀ {L : List α} {i : Nat} {x : α}, L[i]? = some x → ∀ j u, (K.f x)[j]? = some u → (flC K L)[i * K.k + j]? = some u
  | [], i, x, h, _, _, _ => by simp at h
  | y :: L, 0, x, h, j, u, hu => by
    simp only [List.getElem?_cons_zero, Option.some.injEq] at h
    subst h
    show (K.f y ++ flC K L)[0 * K.k + j]? = _
    have hj : j < (K.f y).length := (List.getElem?_eq_some_iff.1 hu).1
    rw [Nat.zero_mul, Nat.zero_add, List.getElem?_append_left hj]
    exact hu
  | y :: L, i + 1, x, h, j, u, hu => by
    rw [List.getElem?_cons_succ] at h
    show (K.f y ++ flC K L)[(i + 1) * K.k + j]? = _
    have hy := hK.len y
    rw [List.getElem?_append_right (by rw [hy, Nat.add_mul]; omega), hy, show (i + 1) * K.k + j - K.k = i * K.k + j by rw [Nat.add_mul]; omega]
    exact flC_get hK h j u hu
/-- So many, one behind the other, in a row that is this one's own since w. -/
def FlO (K : Kf α) (w wr : World) (v : Value) (L : List α) : Prop := wr.ownsRow w.heap.size K.T K.k v L.length (flC K L)
theorem FlO.start (K : Kf α) (w wr : World) : FlO K w wr (.slice none 0 0) [] := World.ownsRow_nil wr w.heap.size _ _
theorem FlO.ch {S : Nat → Prop} {w wr w' : World} {v : Value} {L : List α} (h : FlO K w wr v L) (g : Ch S wr w') (hS : ∀ i, v.ownBlock = some i → ¬ S i) : FlO K w w' v L :=
  own_of h fun i hi => by
    obtain ⟨hb, c, hc⟩ := own_at h hi
    exact g.block i (blk_lt hc) (hS i hi)
theorem FlO.gr {w wr w' : World} {v : Value} {L : List α} (h : FlO K w wr v L) (g : Ch (fun _ => False) wr w') : FlO K w w' v L := h.ch g fun _ _ f => f
theorem FlO.low {w0 w wr : World} {v : Value} {L : List α} (h : FlO K w wr v L) (k : w0.heap.size ≤ w.heap.size) : FlO K w0 wr v L := by
  refine ⟨h.1, ?_⟩
  rcases h.2 with hn | ⟨g, cap, cur, rfl, hb, rest⟩
  · exact Or.inl hn
  · exact Or.inr ⟨g, cap, cur, rfl, Nat.le_trans k hb, rest⟩
theorem FlO.len {w wr : World} {v : Value} {L : List α} (h : FlO K w wr v L) : ∃ A C, v = .slice A L.length C := by
  rcases h.2 with ⟨rfl, h0⟩ | ⟨g, cap, cur, rfl, _⟩
  · exact ⟨none, 0, by rw [h0]⟩
  · exact ⟨_, _, rfl⟩
theorem FlO.lo {w wr : World} {v : Value} {L : List α} (h : FlO K w wr v L) {i : Nat} (hi : v.ownBlock = some i) : w.heap.size ≤ i ∧ i < wr.heap.size := by
  obtain ⟨hb, c, hc⟩ := own_at h hi
  exact ⟨hb, blk_lt hc⟩
/-- One more. -/
theorem FlO.app (hK : K.Ok) {w wr : World} {v : Value} {L : List α} {x : α} (h : FlO K w wr v L) (hk : L.length ≤ 1048576) (hw : w.heap.size ≤ wr.heap.size) :
    ∃ g cap w2, (Builtin.append_ #[K.S, K.S] K.S #[v, .slice (some ⟨wr.heap.size, 0, none⟩) 1 1]).run Try.prog (wr.alloc (.cells (K.f x).toArray K.T)) = .ok (.slice (some ⟨g, 0, none⟩) (L.length + 1) cap) w2 ∧ FlO K w w2 (.slice (some ⟨g, 0, none⟩) (L.length + 1) cap) (L ++ [x]) ∧ Ch (fun i => v.ownBlock = some i) wr w2 ∧ (v.ownBlock = some g ∨ wr.heap.size ≤ g) := by
  obtain ⟨i0, hi, hz0, hz1, hz2⟩ := info_parts hK.inf
  have k1 : Ch (fun _ => False) wr (wr.alloc (.cells (K.f x).toArray K.T)) := (Ch.refl _ wr).alloc _ _
  have hb0 := hK.b0
  obtain ⟨g, cap, w2, hr, h2, h3, h4, _⟩ := run_append_lies (P := Try.prog) (wr.alloc (.cells (K.f x).toArray K.T)) K.S K.S w.heap.size K.T i0 K.z K.k K.by' hK.un hi hz0 hz1 hz2 hK.zk hK.k0 v L.length (flC K L) (fla_gr h k1) ⟨wr.heap.size, 0, none⟩ 1 1 (K.f x) (by rw [hK.len, Nat.one_mul]) (fun j u hu => by
    rw [add_pl, blk_cell (heap_alloc_new wr _), Nat.zero_add, List.getElem?_toArray]
    exact hu) (hK.one x) (by omega) (by unfold maxLen; omega) (by have : (L.length + 1) * K.by' ≤ (L.length + 1) * 128 := Nat.mul_le_mul_left _ hb0; omega) (Nat.le_trans hw k1.size) _ rfl
  rw [← flC_snoc] at h2
  have k2 : Ch (fun i => v.ownBlock = some i) (wr.alloc (.cells (K.f x).toArray K.T)) w2 := (Ch.refl _ _).grown h3 (fun i hi => Or.inl hi)
  exact ⟨g, cap, w2, hr, by unfold FlO; rw [List.length_append]; exact h2, (k1.mono fun _ _ f => f.elim).trans k2, h4.imp id fun e => by rw [e]; exact k1.size⟩
/-- []T{x}. -/
theorem fl_slice (hK : K.Ok) (w : World) (x : α) : (Instr.buildSlice K.S 1 #[(0, .agg (K.f x).toArray)]).run Try.prog w = .ok (.slice (some ⟨w.heap.size, 0, none⟩) 1 1) (w.alloc (.cells (K.f x).toArray K.T)) := by
  obtain ⟨i0, hi, hz0, hz1, hz2⟩ := info_parts hK.inf
  have hl := hK.len x
  have h0 := hK.k0
  refine run_buildSlice (P := Try.prog) w _ _ 1 _ _ i0 _ hK.un hi hz0 (by rw [hz1]; have := hK.kb; omega) (by rw [hz1]; omega) ?_
  rw [hz1]
  exact fla_fill _ _ K.k (by simp [hl]) (by simp [hK.zk]) h0
/-- So many, to be read. -/
structure FlV (K : Kf α) (w : World) (A : Option Addr) (C : Nat) (L : List α) : Prop where
  le : L.length ≤ 1048576
  cap : L.length ≤ C
  at' : 0 < L.length → ∃ b o, A = some ⟨b, o, none⟩ ∧ ∀ i x, L[i]? = some x → ∀ j u, (K.f x)[j]? = some u → w.cell? ⟨b, o + i * K.k + j, none⟩ = some u
theorem FlV.ch {S : Nat → Prop} {w w' : World} {A : Option Addr} {C : Nat} {L : List α} (h : FlV K w A C L) (k : Ch S w w') (hS : ∀ b o, A = some ⟨b, o, none⟩ → ¬ S b) : FlV K w' A C L :=
  ⟨h.le, h.cap, fun h0 => by
    obtain ⟨b, o, hA, hc⟩ := h.at' h0
    exact ⟨b, o, hA, fun i x hx j u hu => k.cell (hc i x hx j u hu) (hS b o hA)⟩⟩
theorem FlV.gr {w w' : World} {A : Option Addr} {C : Nat} {L : List α} (h : FlV K w A C L) (k : Ch (fun _ => False) w w') : FlV K w' A C L := h.ch k fun _ _ _ f => f
theorem FlO.read (hK : K.Ok) {w wr : World} {A : Option Addr} {C : Nat} {L : List α} (h : FlO K w wr (.slice A L.length C) L) (hk : L.length ≤ 1048576) : FlV K wr A C L := by
  have hC : L.length ≤ C := by
    rcases h.2 with ⟨e, h0⟩ | ⟨g, cap, cur, e, _, _, hc, _⟩
    · omega
    · injection e with _ _ e
      omega
  refine ⟨hk, hC, fun h0 => ?_⟩
  rcases h.2 with ⟨_, q⟩ | ⟨g, cap, cur, e, hb, hg, _⟩
  · omega
  · injection e with e _ _
    subst e
    refine ⟨g, 0, rfl, fun i x hx j u hu => ?_⟩
    have c0 := World.ownsRow.cells h (g := g) rfl _ _ (flC_get hK hx j u hu)
    rw [add_pl] at c0
    rw [show 0 + i * K.k + j = 0 + (i * K.k + j) by omega]
    exact c0
theorem FlV.front {w : World} {A : Option Addr} {C : Nat} {L : List α} (h : FlV K w A C L) (n : Nat) : FlV K w A C (L.take n) :=
  ⟨by rw [List.length_take]; have := h.le; omega, by rw [List.length_take]; have := h.cap; omega, fun h0 => by
    rw [List.length_take] at h0
    obtain ⟨b, o, hA, hc⟩ := h.at' (by omega)
    exact ⟨b, o, hA, fun i x hx j u hu => hc i x (by rw [List.getElem?_take] at hx; split at hx; exact hx; cases hx) j u hu⟩⟩
theorem flV_none {w : World} (K : Kf α) (A : Option Addr) (C : Nat) : FlV K w A C [] := ⟨Nat.zero_le _, Nat.zero_le _, fun h => absurd h (Nat.lt_irrefl 0)⟩
/-- An element loaded whole. -/
theorem FlV.load (hK : K.Ok) {w : World} {b o C : Nat} {L : List α} (h : FlV K w (some ⟨b, o, none⟩) C L) {i : Nat} {x : α} (hx : L[i]? = some x) {td : TypeDesc} (ht : Try.prog.underlying K.T = some td) (hr : td.isRow = true) : (loadVar K.T ⟨b, o + i * K.k, none⟩).run Try.prog w = .ok (.agg (K.f x).toArray) w := by
  obtain ⟨b', o', hA', hc⟩ := h.at' (by have := (List.getElem?_eq_some_iff.1 hx).1; omega)
  injection hA' with hA'
  injection hA' with e1 e2
  subst e1
  subst e2
  obtain ⟨i0, hi, hz0, hz1, hz2⟩ := info_parts hK.inf
  exact run_loadVar_mid w b _ _ (K.f x) td (fun j u hu => hc i x hx j u hu) ht hr (by rw [hi, hK.len]; simp [hz1])
end
/-- An append to a row of whatever kind, by its run. -/
theorem wpList_appF {ops : Array Oper} {rest : List Oper} {o : Oper} {a : Act} {Q : Exit → Act → World → Prop} (S : TypeId) (w : World) (hgd : o.guard = none) (s x : Operand)
    (ho : o.op = .call { callee := .builtin .append, args := #[s, x], argTypes := #[S, S] }) (hty : o.type = S) (sv xv v' : Value) (w' : World) (hs : a.eval s = sv) (hx : a.eval x = xv)
    (hrun : (Builtin.append_ #[S, S] S #[sv, xv]).run Try.prog w = .ok v' w') (h : wpList Try.prog ops Q rest (a.put o.dst v') w') : wpList Try.prog ops Q (o :: rest) a w := by
  refine wpList_plain hgd fun _ hK => ?_
  unfold Oper.wp execOp
  simp only [ho, hty, resolve, invoke, builtin, Sem.run_bind, Sem.run_pure, Result.andThen_ok, List.map_toArray, List.map_cons, List.map_nil, hs, hx, hrun]
  exact hK _ _ h
theorem wpList_sliceF {P : Program} {ops : Array Oper} {rest : List Oper} {o : Oper} {a : Act} {Q : Exit → Act → World → Prop} (w w' : World) (hgd : o.guard = none) (t : TypeId) (i : Nat) (n : Nat) (x : Operand) (ho : o.op = .buildSlice t n #[(i, x)]) (u v : Value) (hx : a.eval x = u) (hr : (Instr.buildSlice t n #[(i, u)]).run P w = .ok v w')
    (h : wpList P ops Q rest (a.put o.dst v) w') : wpList P ops Q (o :: rest) a w := by
  refine wpList_plain hgd fun K hK => ?_
  unfold Oper.wp execOp
  simp only [ho, hx, Sem.run_bind, Sem.run_pure, Result.andThen_ok, hr, List.map_toArray, List.map_cons, List.map_nil]
  exact hK _ _ h
end Go.Proofs.Ytkpgaejmhddkdaa
