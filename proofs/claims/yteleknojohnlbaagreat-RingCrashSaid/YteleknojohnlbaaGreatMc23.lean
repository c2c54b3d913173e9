/-
  Rows of structs of one's own (pieces, links, rows of bytes): each of so many cells, one of which is a row of bytes of its own. ring.Told, walked. ring: what fits, how pieces are compared, the sum of a piece's sector, walked.
-/
import Derived.Test.YteleknojohnlbaaGreatMc14
import Derived.Test.YteleknojohnlbaaGreatMc22
import Derived.Test.YteleknojohnlbaaGreatMc4
import Derived.Test.YteleknojohnlbaaGreatMc11
namespace Go.Proofs.YteleknojohnlbaaGreat
open Go.RowKit
set_option linter.unusedVariables false
set_option maxRecDepth 100000
structure Kd where
  T : TypeId
  S : TypeId
  k : Nat
  by' : Nat
  z : Value
structure Kd.Ok (K : Kd) : Prop where
  un : Tryz.prog.underlying K.S = some (.slice K.T)
  inf : (Tryz.prog.info? K.T).map (fun i => (i.zero, i.size, i.bytes)) = some (some K.z, K.k, K.by')
  zk : K.z.cells.size = K.k
  k0 : 0 < K.k
  b0 : K.by' ≤ 128
  nb : K.T ≠ /-t-/5
structure El (α : Type) where
  f : α → List Value
  V : α → Value
  B : α → List Nat
structure El.Ok {α : Type} (E : El α) (K : Kd) (x : α) : Prop where
  len : (E.f x).length = K.k
  one : ∀ u ∈ E.f x, u.oneCell' = true
def cellsO {α : Type} (E : El α) (L : List α) : List Value := L.flatMap E.f
section
variable {α : Type} {E : El α} {K : Kd}
theorem cellsO_snoc (L : List α) (x : α) : cellsO E (L ++ [x]) = cellsO E L ++ E.f x := by simp [cellsO]
theorem cellsO_get : ∀ {L : List α} {i : Nat} {x : α}, (∀ y ∈ L, (E.f y).length = K.k) → L[i]? = some x → ∀ j u, (E.f x)[j]? = some u → (cellsO E L)[i * K.k + j]? = some u
  | [], i, x, _, h, _, _, _ => by simp at h
  | y :: L, 0, x, hl, h, j, u, hu => by
    simp only [List.getElem?_cons_zero, Option.some.injEq] at h
    subst h
    show (E.f y ++ cellsO E L)[0 * K.k + j]? = _
    have hj : j < (E.f y).length := (List.getElem?_eq_some_iff.1 hu).1
    rw [Nat.zero_mul, Nat.zero_add, List.getElem?_append_left hj]
    exact hu
  | y :: L, i + 1, x, hl, h, j, u, hu => by
    rw [List.getElem?_cons_succ] at h
    show (E.f y ++ cellsO E L)[(i + 1) * K.k + j]? = _
    have hy := hl y (List.mem_cons_self ..)
    rw [List.getElem?_append_right (by rw [hy, Nat.add_mul]; omega), hy, show (i + 1) * K.k + j - K.k = i * K.k + j by rw [Nat.add_mul]; omega]
    exact cellsO_get (fun z hz => hl z (List.mem_cons_of_mem _ hz)) h j u hu
structure ByN (E : El α) (w wr : World) (x : α) : Prop where
  row : RowN w wr (E.V x) (E.B x).length (Cod.litZ (E.B x))
  byt : ∀ c ∈ E.B x, c < 256
theorem ByN.gr {w wr w' : World} {x : α} (h : ByN E w wr x) (k : Ch (fun _ => False) wr w') : ByN E w w' x := ⟨h.row.gr k, h.byt⟩
theorem ByN.ch {S : Nat → Prop} {w wr w' : World} {x : α} (h : ByN E w wr x) (k : Ch S wr w') (hS : ∀ i, S i → w.heap.size ≤ i → ¬ ∃ c, wr.heap[i]? = some (.cells c /-t-/5 (0, 0))) : ByN E w w' x := ⟨h.row.ch k hS, h.byt⟩
theorem ByN.low {w0 w wr : World} {x : α} (h : ByN E w wr x) (k : w0.heap.size ≤ w.heap.size) : ByN E w0 wr x := ⟨h.row.low k, h.byt⟩
theorem ByN.set {w wr w' : World} {x : α} {H : Nat} {c : Array Value} {t : TypeId} (h : ByN E w wr x) (k : Ch (fun i => i = H) wr w') (hH : wr.heap[H]? = some (.cells c t (0, 0))) (ht : t ≠ /-t-/5) : ByN E w w' x := ⟨h.row.set k hH ht, h.byt⟩
structure RwO (K : Kd) (E : El α) (w wr : World) (v : Value) (L : List α) : Prop where
  own : wr.ownsRow w.heap.size K.T K.k v L.length (cellsO E L)
  ok : ∀ x ∈ L, E.Ok K x
  rows : ∀ x ∈ L, ByN E w wr x
theorem RwO.start (K : Kd) (E : El α) (w wr : World) : RwO K E w wr (.slice none 0 0) [] := ⟨World.ownsRow_nil wr w.heap.size _ _, fun x hx => (by cases hx), fun x hx => (by cases hx)⟩
theorem RwO.ch {S : Nat → Prop} {w wr w' : World} {v : Value} {L : List α} (h : RwO K E w wr v L) (g : Ch S wr w') (hS : ∀ i, S i → w.heap.size ≤ i → (¬ ∃ c, wr.heap[i]? = some (.cells c K.T (0, 0))) ∧ ¬ ∃ c, wr.heap[i]? = some (.cells c /-t-/5 (0, 0))) : RwO K E w w' v L :=
  ⟨own_of h.own fun i hi => by
    obtain ⟨hb, c, hc⟩ := own_at h.own hi
    exact g.block i (blk_lt hc) fun q => (hS i q hb).1 ⟨c, hc⟩, h.ok, fun x hx => (h.rows x hx).ch g fun i hi hb => (hS i hi hb).2⟩
theorem RwO.gr {w wr w' : World} {v : Value} {L : List α} (h : RwO K E w wr v L) (g : Ch (fun _ => False) wr w') : RwO K E w w' v L := h.ch g fun _ f => f.elim
theorem RwO.set {w wr w' : World} {v : Value} {L : List α} {H : Nat} {c : Array Value} {t : TypeId} (h : RwO K E w wr v L) (k : Ch (fun i => i = H) wr w') (hH : wr.heap[H]? = some (.cells c t (0, 0))) (ht : t ≠ /-t-/5) (ht2 : t ≠ K.T) : RwO K E w w' v L :=
  h.ch k fun i e _ => ⟨fun ⟨c2, hc2⟩ => by rw [e] at hc2; exact cells_ne hH hc2 ht2 rfl, fun ⟨c2, hc2⟩ => by rw [e] at hc2; exact cells_ne hH hc2 ht rfl⟩
theorem RwO.len {w wr : World} {v : Value} {L : List α} (h : RwO K E w wr v L) : ∃ A C, v = .slice A L.length C := by
  rcases h.own.2 with ⟨rfl, h0⟩ | ⟨g, cap, cur, rfl, _⟩
  · exact ⟨none, 0, by rw [h0]⟩
  · exact ⟨_, _, rfl⟩
theorem RwO.app (hK : K.Ok) {w wr : World} {v : Value} {L : List α} {x : α} (h : RwO K E w wr v L) (hx : E.Ok K x) (hu : ByN E w wr x) (hk : L.length ≤ 1048576) (hw : w.heap.size ≤ wr.heap.size) :
    ∃ g cap w2, (Builtin.append_ #[K.S, K.S] K.S #[v, .slice (some ⟨wr.heap.size, 0, none⟩) 1 1]).run Tryz.prog (wr.alloc (.cells (E.f x).toArray K.T)) = .ok (.slice (some ⟨g, 0, none⟩) (L.length + 1) cap) w2 ∧ RwO K E w w2 (.slice (some ⟨g, 0, none⟩) (L.length + 1) cap) (L ++ [x]) ∧ Ch (fun i => v.ownBlock = some i) wr w2 := by
  obtain ⟨i0, hi, hz0, hz1, hz2⟩ := info_parts hK.inf
  have k1 : Ch (fun _ => False) wr (wr.alloc (.cells (E.f x).toArray K.T)) := (Ch.refl _ wr).alloc _ _
  have hb0 := hK.b0
  obtain ⟨g, cap, w2, hr, h2, h3, h4, _⟩ := run_append_lies (P := Tryz.prog) (wr.alloc (.cells (E.f x).toArray K.T)) K.S K.S w.heap.size K.T i0 K.z K.k K.by' hK.un hi hz0 hz1 hz2 hK.zk hK.k0 v L.length (cellsO E L) (own_gr h.own k1) ⟨wr.heap.size, 0, none⟩ 1 1 (E.f x) (by rw [hx.len, Nat.one_mul]) (fun j u hu => by
    rw [add_pl, blk_cell (heap_alloc_new wr _), Nat.zero_add, List.getElem?_toArray]
    exact hu) hx.one (by omega) (by unfold maxLen; omega) (by have : (L.length + 1) * K.by' ≤ (L.length + 1) * 128 := Nat.mul_le_mul_left _ hb0; omega) (Nat.le_trans hw k1.size) _ rfl
  rw [← cellsO_snoc] at h2
  have k2 : Ch (fun i => v.ownBlock = some i) (wr.alloc (.cells (E.f x).toArray K.T)) w2 := (Ch.refl _ _).grown h3 (fun i hi => Or.inl hi)
  have off : ∀ i, v.ownBlock = some i → w.heap.size ≤ i → ¬ ∃ c, (wr.alloc (.cells (E.f x).toArray K.T)).heap[i]? = some (.cells c /-t-/5 (0, 0)) := fun i e _ ⟨c, hc⟩ => by
    obtain ⟨_, c2, hc2⟩ := own_at (own_gr h.own k1) e
    exact cells_ne hc2 hc hK.nb rfl
  refine ⟨g, cap, w2, hr, ⟨by rw [List.length_append]; exact h2, fun y hy => ?_, fun y hy => ?_⟩, (k1.mono fun _ _ f => f.elim).trans k2⟩
  · rcases List.mem_append.1 hy with q | q
    · exact h.ok y q
    · rw [List.mem_singleton.1 q]; exact hx
  · rcases List.mem_append.1 hy with q | q
    · exact ((h.rows y q).gr k1).ch k2 off
    · rw [List.mem_singleton.1 q]; exact (hu.gr k1).ch k2 off
structure RwV (K : Kd) (E : El α) (w : World) (A : Option Addr) (C : Nat) (L : List α) : Prop where
  le : L.length ≤ 1048576
  cap : L.length ≤ C
  at' : 0 < L.length → ∃ b o, A = some ⟨b, o, none⟩ ∧ ∀ i x, L[i]? = some x → ∀ j u, (E.f x)[j]? = some u → w.cell? ⟨b, o + i * K.k + j, none⟩ = some u
  rows : ∀ x ∈ L, RowV w (E.V x) (E.B x).length (Cod.litZ (E.B x)) ∧ ∀ c ∈ E.B x, c < 256
theorem RwV.gr {w w' : World} {A : Option Addr} {C : Nat} {L : List α} (h : RwV K E w A C L) (k : Ch (fun _ => False) w w') : RwV K E w' A C L :=
  ⟨h.le, h.cap, fun h0 => by
    obtain ⟨b, o, hA, hc⟩ := h.at' h0
    exact ⟨b, o, hA, fun i x hx j u hu => k.cell (hc i x hx j u hu) (fun f => f)⟩, fun x hx => ⟨(h.rows x hx).1.gr k, (h.rows x hx).2⟩⟩
theorem RwO.read {w wr : World} {A : Option Addr} {C : Nat} {L : List α} (h : RwO K E w wr (.slice A L.length C) L) (hk : L.length ≤ 1048576) : RwV K E wr A C L := by
  have hC : L.length ≤ C := by
    rcases h.own.2 with ⟨e, h0⟩ | ⟨g, cap, cur, e, _, _, hc, _⟩
    · omega
    · injection e with _ _ e
      omega
  refine ⟨hk, hC, fun h0 => ?_, fun x hx => ⟨(h.rows x hx).row.row, (h.rows x hx).byt⟩⟩
  rcases h.own.2 with ⟨_, q⟩ | ⟨g, cap, cur, e, hb, hg, _⟩
  · omega
  · injection e with e _ _
    subst e
    refine ⟨g, 0, rfl, fun i x hx j u hu => ?_⟩
    have c0 := World.ownsRow.cells h.own (g := g) rfl _ _ (cellsO_get (K := K) (fun y hy => (h.ok y hy).len) hx j u hu)
    rw [add_pl] at c0
    rw [show 0 + i * K.k + j = 0 + (i * K.k + j) by omega]
    exact c0
theorem RwV.front {w : World} {A : Option Addr} {C : Nat} {L : List α} (h : RwV K E w A C L) (n : Nat) : RwV K E w A C (L.take n) :=
  ⟨by rw [List.length_take]; have := h.le; omega, by rw [List.length_take]; have := h.cap; omega, fun h0 => by
    rw [List.length_take] at h0
    obtain ⟨b, o, hA, hc⟩ := h.at' (by omega)
    exact ⟨b, o, hA, fun i x hx j u hu => hc i x (by rw [List.getElem?_take] at hx; split at hx; exact hx; cases hx) j u hu⟩, fun x hx => h.rows x (List.mem_of_mem_take hx)⟩
theorem RwV.tail {w : World} {b o : Nat} {C : Nat} {L : List α} (h : RwV K E w (some ⟨b, o, none⟩) C L) (n : Nat) (hn : n ≤ L.length) : RwV K E w (some ⟨b, o + n * K.k, none⟩) (C - n) (L.drop n) :=
  ⟨by rw [List.length_drop]; have := h.le; omega, by rw [List.length_drop]; have := h.cap; omega, fun h0 => by
    rw [List.length_drop] at h0
    obtain ⟨b', o', hA, hc⟩ := h.at' (by omega)
    injection hA with hA
    injection hA with e1 e2
    subst e1
    subst e2
    refine ⟨b, _, rfl, fun i x hx j u hu => ?_⟩
    rw [List.getElem?_drop] at hx
    have := hc (n + i) x hx j u hu
    rw [Nat.add_mul, ← Nat.add_assoc] at this
    exact this, fun x hx => h.rows x (List.mem_of_mem_drop hx)⟩
theorem RwV.none {w : World} (K : Kd) (E : El α) (A : Option Addr) (C : Nat) : RwV K E w A C [] := ⟨Nat.zero_le _, Nat.zero_le _, fun h => absurd h (Nat.lt_irrefl 0), fun x hx => (by cases hx)⟩
end
structure Pv where
  p : Pn
  V : Value
def elP : El Pv := ⟨fun x => (pcC x.p x.V).toList, Pv.V, fun x => x.p.B⟩
def kdP : Kd := ⟨ 26, 102, 7, 72, .agg (pcC pn0 (.slice none 0 0))⟩
theorem kdP_ok : kdP.Ok := ⟨by kernel_rfl, by kernel_rfl, by kernel_rfl, by decide, by decide, by decide⟩
theorem elP_ok {x : Pv} (h : SlV x.V) : elP.Ok kdP x := ⟨rfl, fun u hu => by
  obtain ⟨A, n, C, e⟩ := h
  simp only [elP, pcC, List.mem_cons, List.not_mem_nil, or_false] at hu
  rcases hu with rfl | rfl | rfl | rfl | rfl | rfl | rfl <;> first | rfl | (rw [e]; rfl)⟩
structure Lk where
  p : Pn
  V : Value
  sum : Int
def lkC (x : Lk) : Array Value := #[.int .i64 x.p.seq, .int .i64 x.p.ep, .int .i64 x.p.fr, .int .i64 x.p.ch, .int .i64 x.p.ix, .int .i64 x.p.ofn, x.V, .int .i64 x.sum]
def elL : El Lk := ⟨fun x => (lkC x).toList, Lk.V, fun x => x.p.B⟩
def lk0 (s : Int) : Lk := ⟨pn0, .slice none 0 0, s⟩
def kdL : Kd := ⟨ 100, 95, 8, 80, .agg (lkC (lk0 0))⟩
theorem kdL_ok : kdL.Ok := ⟨by kernel_rfl, by kernel_rfl, by kernel_rfl, by decide, by decide, by decide⟩
theorem elL_ok {x : Lk} (h : SlV x.V) : elL.Ok kdL x := ⟨rfl, fun u hu => by
  obtain ⟨A, n, C, e⟩ := h
  simp only [elL, lkC, List.mem_cons, List.not_mem_nil, or_false] at hu
  rcases hu with rfl | rfl | rfl | rfl | rfl | rfl | rfl | rfl <;> first | rfl | (rw [e]; rfl)⟩
structure Bv where
  V : Value
  B : List Nat
def elB : El Bv := ⟨fun x => [x.V], Bv.V, Bv.B⟩
def kdB : Kd := ⟨ /-t-/24, /-t-/37, 1, 24, .slice none 0 0⟩
theorem kdB_ok : kdB.Ok := ⟨by kernel_rfl, by kernel_rfl, by kernel_rfl, by decide, by decide, by decide⟩
theorem elB_ok {x : Bv} (h : SlV x.V) : elB.Ok kdB x := ⟨rfl, fun u hu => by
  obtain ⟨A, n, C, e⟩ := h
  rw [List.mem_singleton.1 hu, e]; rfl⟩
theorem wpList_appK_of {ops : Array Oper} {rest : List Oper} {o : Oper} {a : Act} {Q : Exit → Act → World → Prop} (S : TypeId) (w : World) (hgd : o.guard = none) (s x : Operand)
    (ho : o.op = .call { callee := .builtin .append, args := #[s, x], argTypes := #[S, S] }) (hty : o.type = S) (sv xv v' : Value) (w' : World) (hs : a.eval s = sv) (hx : a.eval x = xv)
    (hrun : (Builtin.append_ #[S, S] S #[sv, xv]).run Tryz.prog w = .ok v' w') (h : wpList Tryz.prog ops Q rest (a.put o.dst v') w') : wpList Tryz.prog ops Q (o :: rest) a w := by
  refine wpList_plain hgd fun _ hK => ?_
  unfold Oper.wp execOp
  simp only [ho, hty, resolve, invoke, builtin, Sem.run_bind, Sem.run_pure, Result.andThen_ok, List.map_toArray, List.map_cons, List.map_nil, hs, hx, hrun]
  exact hK _ _ h
theorem slice_pc (w : World) (p : Pn) (V : Value) : (Instr.buildSlice 102 1 #[(0, .agg (pcC p V))]).run Tryz.prog w = .ok (.slice (some ⟨w.heap.size, 0, none⟩) 1 1) (w.alloc (.cells (pcC p V) 26)) := by
  obtain ⟨i0, hi, hz0, hz1, hz2⟩ := info_parts kdP_ok.inf
  refine run_buildSlice (P := Tryz.prog) w _ _ 1 _ _ i0 _ kdP_ok.un hi hz0 (by rw [hz1]; decide) (by rw [hz1]; decide) ?_
  rw [hz1]
  exact fill_one _ _ 7 rfl (by simp; rfl) (by omega)
theorem slice_lk (w : World) (x : Lk) : (Instr.buildSlice 95 1 #[(0, .agg (lkC x))]).run Tryz.prog w = .ok (.slice (some ⟨w.heap.size, 0, none⟩) 1 1) (w.alloc (.cells (lkC x) 100)) := by
  obtain ⟨i0, hi, hz0, hz1, hz2⟩ := info_parts kdL_ok.inf
  refine run_buildSlice (P := Tryz.prog) w _ _ 1 _ _ i0 _ kdL_ok.un hi hz0 (by rw [hz1]; decide) (by rw [hz1]; decide) ?_
  rw [hz1]
  exact fill_one _ _ 8 rfl (by simp; rfl) (by omega)
end Go.Proofs.YteleknojohnlbaaGreat
namespace Go.Proofs.YteleknojohnlbaaGreat
open Go.RowKit
set_option linter.unusedVariables false
set_option maxRecDepth 100000
def TellPostR (n : Nat) (z : Nat → Nat) (vol : Int) (g : Ge) (mir slot : Int) (w : World) (e : Ending) (w' : World) : Prop :=
  ∃ o V, TellR n z vol g mir slot o ∧ e = .returned (.tuple #[.agg (pcC (optP o) V), .bool o.isSome]) ∧ RowN w w' V (optP o).B.length (Cod.litZ (optP o).B) ∧ Ch (fun _ => False) w w'
section
variable {n : Nat} {z : Nat → Nat} {vol : Int} {g : Ge} {mir slot : Int} {p : Pn}
theorem tellR_no (h : ∀ vol g mir slot y, TellsR n z vol g mir slot y → p = y) (hn : ¬ TellsR n z vol g mir slot p) : TellR n z vol g mir slot none := fun y =>
  ⟨fun q => (by cases q), fun q => absurd (by rw [h vol g mir slot y q]; exact q) hn⟩
theorem tellR_yes (h : ∀ vol g mir slot y, TellsR n z vol g mir slot y → p = y) (hx : TellsR n z vol g mir slot p) : TellR n z vol g mir slot (some p) := fun y =>
  ⟨fun q => by injection q with q; rw [← q]; exact hx, fun q => by rw [h vol g mir slot y q]⟩
end
set_option maxHeartbeats 6400000 in
theorem rtold_any (A : Option Addr) (n C : Nat) (z : Nat → Nat) (vol : Int) (g : Ge) (mir slot : Int) (w : World) (hv : N64 vol) (h : RowV w (.slice A n C) n z) :
    Calls Tryz.prog 15 #[.slice A n C, .int .i64 vol, .agg (geC g), .int .i64 mir, .int .i64 slot] w (TellPostR n z vol g mir slot w) := by
  obtain ⟨w0, HG, hRG⟩ := geR w g
  obtain ⟨w1, H, hZ⟩ := zePc w0
  have HGX1 := Lib.hid (hRG.x.gr hZ.ch)
  have HGL := Lib.hid (show w1.heap[HG]? = some (.cells (geC g) 23 (0, 0)) from (hZ.ch.block HG (blk_lt hRG.cx) (fun f => f)).trans hRG.cx)
  have HV1 := Lib.hid ((h.gr hRG.ch).gr hZ.ch)
  have HC1 := Lib.hid (hRG.ch.trans hZ.ch)
  have HRG := Lib.hid hRG
  have HZ := Lib.hid hZ
  have HVO := Lib.hid hv
  clear hZ h hRG hv
  go_enter Tryz.func15, Tryz.ntmps15
  go_wp2_with (first | ((with_reducible refine wpList_isOp (.box 23 (.tmp 2)) rfl ?_); refine wpList_boxing _ w0 rfl 23 (.tmp 2) rfl (geC g) HG rfl (by exact HRG.out.sz) (by exact HRG.out.al) ?_) | ((with_reducible refine wpList_isOp (.alloc 26) rfl ?_); refine wpList_making _ w1 rfl 26 rfl (pcC pn0 (.slice none 0 0)) H (zero_pc _) (by exact HZ.out.sz) (by exact HZ.out.al) ?_) | fail)
  refine (rread_any A n C z _ HV1.out).mono ?_
  rintro e w2 ⟨p, V, rfl, hN, hb, hx, hc2⟩
  have hVS : SlV V := by obtain ⟨A, C, e⟩ := hN.len; exact ⟨_, _, _, e⟩
  obtain ⟨wz, w3, H3, hV3⟩ := varPc p hVS w2
  obtain ⟨gx0, gx1, gx2, gx3⟩ := (HGX1.out.gr hc2).gr hV3.ch
  have HL := Lib.hid (load_pc hV3.cx)
  have HIS := Lib.hid (show PcIs w3 p V from ⟨(hN.gr hV3.ch).row, hb⟩)
  have HS := Lib.hid (rsector_any vol g mir p V w3 HVO.out HIS.out)
  have HC3 := Lib.hid (hc2.trans hV3.ch)
  have HN3 := Lib.hid (hN.gr hV3.ch)
  have HX := Lib.hid hx
  have HV3 := Lib.hid hV3
  have HVS := Lib.hid hVS
  have HBY := Lib.hid hb
  clear hx hc2 hV3 hN hb hVS
  go_wp2_with (first
    | ((with_reducible refine wpList_isOp (.alloc 26) rfl ?_); refine wpList_making _ wz rfl 26 rfl (pcC pn0 (.slice none 0 0)) H3 (zero_pc _) (by exact HV3.out.sz) (by exact HV3.out.al) ?_)
    | ((with_reducible refine wpList_isOp (.store 26 (.tmp 12) (.tmp 16)) rfl ?_); refine wpList_storing _ w3 rfl 26 (.tmp 12) (.tmp 16) rfl (.agg (pcC p V)) ⟨H3, 0, none⟩ rfl rfl (by exact HV3.out.st) ?_)
    | ((with_reducible refine wpList_isOp (.load 26 (.tmp 12)) rfl ?_); refine wpList_loading _ rfl 26 (.tmp 12) rfl (.agg (pcC p V)) ⟨H3, 0, none⟩ rfl (by exact HL.out) ?_)
    | fail)
  refine HS.out.mono ?_
  rintro e w4 ⟨A4, C4, rfl, ho4, hc4⟩
  have HC4 := Lib.hid (HC3.out.trans hc4)
  have hx4 := ((HC4.out).block H (blk_lt (o := .cells (pcC pn0 (.slice none 0 0)) 26 (0, 0)) HZ.out.cx) (fun f => f)).trans HZ.out.cx
  have hl4 := (hc4.block H3 (blk_lt HV3.out.cx) (fun f => f)).trans HV3.out.cx
  have HL4 := Lib.hid (load_pc hl4)
  obtain ⟨wn, hn⟩ := stPc pn0 hx4 slV_nil
  obtain ⟨wy, hy⟩ := stPc p hx4 HVS.out
  have HHW := Lib.hid (show w.heap.size ≤ H by rw [← HZ.out.sz]; exact HRG.out.ch.size)
  have HPN := Lib.hid (show ¬ TellsR n z vol g mir slot p → TellPostR n z vol g mir slot w (.returned (.tuple #[.agg (pcC pn0 (.slice none 0 0)), .bool false])) wn from fun q => ⟨none, _, tellR_no HX.out q, rfl, RowN.nil _ _ _, (HC1.out.trans HC4.out).new (hn.ch.mono fun i _ hi => by rw [hi]; exact HHW.out)⟩)
  have HPY := Lib.hid (show TellsR n z vol g mir slot p → TellPostR n z vol g mir slot w (.returned (.tuple #[.agg (pcC p V), .bool true])) wy from fun q => ⟨some p, V, tellR_yes HX.out q, rfl, ((HN3.out.gr hc4).set hy.ch hx4 (by decide)).low HC1.out.size, (HC1.out.trans HC4.out).new (hy.ch.mono fun i _ hi => by rw [hi]; exact HHW.out)⟩)
  have HN := Lib.hid hn
  have HY := Lib.hid hy
  have HV4 := Lib.hid (HV1.out.gr HC4.out)
  have HR4 := Lib.hid (ownsRow_rowV ho4 (by unfold secRN; split <;> omega) (sectR_b HBY.out _))
  have HBN := Lib.hid (build_pc w4)
  have y0 : w4.cell? ⟨H3, 0, none⟩ = some (.int .i64 p.seq) := blk_cell hl4
  have z0 : w4.cell? ⟨HG, 0, none⟩ = some (.int .i64 g.wal) := hc4.cell gx0 (fun f => f)
  clear ho4 hc4 hx4 hl4 hn hy gx0 gx1 gx2 gx3
  cases hs : rokB vol g mir p
  · have HE : secRE vol g mir p = 1 := by unfold secRE; rw [hs]; rfl
    have HT := Lib.hid (HPN.out fun q => by have := q.sec; rw [hs] at this; cases this)
    rw [HE]
    clear hs HE HR4 y0 z0
    go_wp2_with (first
      | ((with_reducible refine wpList_isOp (.build 26 #[]) rfl ?_); refine wpList_building _ rfl 26 #[] rfl _ (by exact HBN.out) ?_)
      | ((with_reducible refine wpList_isOp (.store 26 (.tmp 10) (.tmp 42)) rfl ?_); refine wpList_storing _ wn rfl 26 (.tmp 10) (.tmp 42) rfl (.agg (pcC pn0 (.slice none 0 0))) ⟨H, 0, none⟩ rfl rfl (by exact HN.out.st) ?_)
      | fail)
    exact bodyPost_ret (v := .tuple #[.agg (pcC pn0 (.slice none 0 0)), .bool false]) (results_pc Tryz.results15 _ _ H pn0 _ rfl HN.out.cx) rfl HT.out
  · have HE : secRE vol g mir p = 0 := by unfold secRE; rw [hs]; rfl
    have HQ := Lib.hid (show secRN vol g mir p = 256 by unfold secRN; rw [hs]; rfl)
    have HSK := Lib.hid hs
    obtain ⟨hsp, hsg, _, _⟩ := rokB_iff.1 hs
    have hsq := (mayP_iff.1 hsp).seq
    obtain ⟨⟨wa, wb⟩, _⟩ := may_parts hsg
    have wz : ¬ g.wal = 0 := by omega
    rw [HE]
    clear hs HE
    cases hq : eqB (secRN vol g mir p) n (sectR vol g mir p) z
    · have HT := Lib.hid (HPN.out fun q => by
        have := decide_eq_false_iff_not.1 hq
        exact this ⟨by rw [HQ.out, q.n], fun c hc => (q.z c (by rw [HQ.out] at hc; exact hc)).symm⟩)
      have HEQ := Lib.hid hq
      clear hq
      go_wp2_with (first
        | (go_at_call 49; refine (equal_any _ _ _ _ _ _ _ _ _ HR4.out HV4.out).mono ?_; rintro e w5 ⟨rfl, rfl⟩; rw [HEQ.out])
        | ((with_reducible refine wpList_isOp (.build 26 #[]) rfl ?_); refine wpList_building _ rfl 26 #[] rfl _ (by exact HBN.out) ?_)
        | ((with_reducible refine wpList_isOp (.store 26 (.tmp 10) (.tmp 42)) rfl ?_); refine wpList_storing _ wn rfl 26 (.tmp 10) (.tmp 42) rfl (.agg (pcC pn0 (.slice none 0 0))) ⟨H, 0, none⟩ rfl rfl (by exact HN.out.st) ?_)
        | fail)
      exact bodyPost_ret (v := .tuple #[.agg (pcC pn0 (.slice none 0 0)), .bool false]) (results_pc Tryz.results15 _ _ H pn0 _ rfl HN.out.cx) rfl HT.out
    · have HEQ := Lib.hid hq
      by_cases hsl : p.seq % g.wal = slot
      · have HT := Lib.hid (HPY.out (by
          obtain ⟨q1, q2⟩ := of_decide_eq_true hq
          rw [HQ.out] at q1 q2
          exact ⟨HSK.out, q1.symm, fun c hc => (q2 c hc).symm, hsl, HBY.out⟩))
        have t1 : (p.seq % g.wal != slot) = false := by simpa using hsl
        clear hq hsl
        go_wp2_with (first
          | (go_at_call 49; refine (equal_any _ _ _ _ _ _ _ _ _ HR4.out HV4.out).mono ?_; rintro e w5 ⟨rfl, rfl⟩; rw [HEQ.out])
          | ((with_reducible refine wpList_isOp (.load 26 (.tmp 12)) rfl ?_); refine wpList_loading _ rfl 26 (.tmp 12) rfl (.agg (pcC p V)) ⟨H3, 0, none⟩ rfl (by exact HL4.out) ?_)
          | ((with_reducible refine wpList_isOp (.store 26 (.tmp 10) (.tmp 43)) rfl ?_); refine wpList_storing _ wy rfl 26 (.tmp 10) (.tmp 43) rfl (.agg (pcC p V)) ⟨H, 0, none⟩ rfl rfl (by exact HY.out.st) ?_)
          | fail)
        exact bodyPost_ret (v := .tuple #[.agg (pcC p V), .bool true]) (results_pc Tryz.results15 _ _ H p V rfl HY.out.cx) rfl HT.out
      · have HT := Lib.hid (HPN.out fun q => hsl q.slot)
        have t1 : (p.seq % g.wal != slot) = true := by simpa using hsl
        clear hq hsl
        go_wp2_with (first
          | (go_at_call 49; refine (equal_any _ _ _ _ _ _ _ _ _ HR4.out HV4.out).mono ?_; rintro e w5 ⟨rfl, rfl⟩; rw [HEQ.out])
          | ((with_reducible refine wpList_isOp (.build 26 #[]) rfl ?_); refine wpList_building _ rfl 26 #[] rfl _ (by exact HBN.out) ?_)
          | ((with_reducible refine wpList_isOp (.store 26 (.tmp 10) (.tmp 42)) rfl ?_); refine wpList_storing _ wn rfl 26 (.tmp 10) (.tmp 42) rfl (.agg (pcC pn0 (.slice none 0 0))) ⟨H, 0, none⟩ rfl rfl (by exact HN.out.st) ?_)
          | fail)
        exact bodyPost_ret (v := .tuple #[.agg (pcC pn0 (.slice none 0 0)), .bool false]) (results_pc Tryz.results15 _ _ H pn0 _ rfl HN.out.cx) rfl HT.out
end Go.Proofs.YteleknojohnlbaaGreat
namespace Go.Proofs.YteleknojohnlbaaGreat
open Go.RowKit
set_option linter.unusedVariables false
set_option maxRecDepth 100000
def goesOn (a p : Pn) : Bool := if a.ofn = 0 then true else if p.ep = a.ep then decide (p.fr = a.fr) else (decide (a.ep < p.ep) && decide (p.fr = p.seq))
def fitsP (a : Pn) (s : Int) (p : Pn) : Bool := if p.ch = s then goesOn a p else false
set_option maxHeartbeats 3200000 in
theorem rfits_any (a : Lk) (p : Pn) (V : Value) (w : World) : Calls Tryz.prog 92 #[.agg (lkC a), .agg (pcC p V)] w (Ans (.bool (fitsP a.p a.sum p)) w) := by
  obtain ⟨w0, D, hL⟩ := boxR w (lkC a) 100
  obtain ⟨w1, H, hR⟩ := boxR w0 (pcC p V) 26
  obtain ⟨y0, y1, y2, y3, y4, y5, y6⟩ := pc_x hR.cx
  have a1 : w1.cell? ⟨D, 1, none⟩ = some (.int .i64 a.p.ep) := hR.ch.cell (p := ⟨D, 1, none⟩) (blk_cell hL.cx) (fun f => f)
  have a2 : w1.cell? ⟨D, 2, none⟩ = some (.int .i64 a.p.fr) := hR.ch.cell (p := ⟨D, 2, none⟩) (blk_cell hL.cx) (fun f => f)
  have a5 : w1.cell? ⟨D, 5, none⟩ = some (.int .i64 a.p.ofn) := hR.ch.cell (p := ⟨D, 5, none⟩) (blk_cell hL.cx) (fun f => f)
  have a7 : w1.cell? ⟨D, 7, none⟩ = some (.int .i64 a.sum) := hR.ch.cell (p := ⟨D, 7, none⟩) (blk_cell hL.cx) (fun f => f)
  have HC := Lib.hid (hL.ch.trans hR.ch)
  have HL := Lib.hid hL
  have HR := Lib.hid hR
  clear hL hR
  by_cases q1 : p.ch = a.sum
  · have t1 : (p.ch != a.sum) = false := by simpa using q1
    by_cases q2 : a.p.ofn = 0
    · have t2 : (a.p.ofn == 0) = true := by simpa using q2
      have HE := Lib.hid (show fitsP a.p a.sum p = true by unfold fitsP goesOn; rw [if_pos q1, if_pos q2])
      clear q1 q2
      go_enter Tryz.func92, Tryz.ntmps92
      go_wp2_with (first | ((with_reducible refine wpList_isOp (.box 100 (.tmp 0)) rfl ?_); refine wpList_boxing _ w0 rfl 100 (.tmp 0) rfl (lkC a) D rfl (by exact HL.out.sz) (by exact HL.out.al) ?_) | ((with_reducible refine wpList_isOp (.box 26 (.tmp 1)) rfl ?_); refine wpList_boxing _ w1 rfl 26 (.tmp 1) rfl (pcC p V) H rfl (by exact HR.out.sz) (by exact HR.out.al) ?_))
      go_ret
      exact ⟨ret_bool HE.out.symm, HC.out⟩
    · have t2 : (a.p.ofn == 0) = false := by simpa using q2
      by_cases q3 : p.ep = a.p.ep
      · have t3 : (p.ep == a.p.ep) = true := by simpa using q3
        have HE := Lib.hid (show fitsP a.p a.sum p = (p.fr == a.p.fr) by unfold fitsP goesOn; rw [if_pos q1, if_neg q2, if_pos q3]; rfl)
        clear q1 q2 q3
        go_enter Tryz.func92, Tryz.ntmps92
        go_wp2_with (first | ((with_reducible refine wpList_isOp (.box 100 (.tmp 0)) rfl ?_); refine wpList_boxing _ w0 rfl 100 (.tmp 0) rfl (lkC a) D rfl (by exact HL.out.sz) (by exact HL.out.al) ?_) | ((with_reducible refine wpList_isOp (.box 26 (.tmp 1)) rfl ?_); refine wpList_boxing _ w1 rfl 26 (.tmp 1) rfl (pcC p V) H rfl (by exact HR.out.sz) (by exact HR.out.al) ?_))
        go_ret
        exact ⟨ret_bool HE.out.symm, HC.out⟩
      · have t3 : (p.ep == a.p.ep) = false := by simpa using q3
        by_cases q4 : a.p.ep < p.ep
        · have t4 : decide (a.p.ep < p.ep) = true := decide_eq_true q4
          have HE := Lib.hid (show fitsP a.p a.sum p = (p.fr == p.seq) by unfold fitsP goesOn; rw [if_pos q1, if_neg q2, if_neg q3, t4]; rfl)
          clear q1 q2 q3 q4
          go_enter Tryz.func92, Tryz.ntmps92
          go_wp2_with (first | ((with_reducible refine wpList_isOp (.box 100 (.tmp 0)) rfl ?_); refine wpList_boxing _ w0 rfl 100 (.tmp 0) rfl (lkC a) D rfl (by exact HL.out.sz) (by exact HL.out.al) ?_) | ((with_reducible refine wpList_isOp (.box 26 (.tmp 1)) rfl ?_); refine wpList_boxing _ w1 rfl 26 (.tmp 1) rfl (pcC p V) H rfl (by exact HR.out.sz) (by exact HR.out.al) ?_))
          go_ret
          exact ⟨ret_bool HE.out.symm, HC.out⟩
        · have t4 : decide (a.p.ep < p.ep) = false := decide_eq_false q4
          have HE := Lib.hid (show fitsP a.p a.sum p = false by unfold fitsP goesOn; rw [if_pos q1, if_neg q2, if_neg q3, t4]; rfl)
          clear q1 q2 q3 q4
          go_enter Tryz.func92, Tryz.ntmps92
          go_wp2_with (first | ((with_reducible refine wpList_isOp (.box 100 (.tmp 0)) rfl ?_); refine wpList_boxing _ w0 rfl 100 (.tmp 0) rfl (lkC a) D rfl (by exact HL.out.sz) (by exact HL.out.al) ?_) | ((with_reducible refine wpList_isOp (.box 26 (.tmp 1)) rfl ?_); refine wpList_boxing _ w1 rfl 26 (.tmp 1) rfl (pcC p V) H rfl (by exact HR.out.sz) (by exact HR.out.al) ?_))
          go_ret
          exact ⟨ret_bool HE.out.symm, HC.out⟩
  · have t1 : (p.ch != a.sum) = true := by simpa using q1
    have HE := Lib.hid (show fitsP a.p a.sum p = false by unfold fitsP; rw [if_neg q1])
    clear q1
    go_enter Tryz.func92, Tryz.ntmps92
    go_wp2_with (first | ((with_reducible refine wpList_isOp (.box 100 (.tmp 0)) rfl ?_); refine wpList_boxing _ w0 rfl 100 (.tmp 0) rfl (lkC a) D rfl (by exact HL.out.sz) (by exact HL.out.al) ?_) | ((with_reducible refine wpList_isOp (.box 26 (.tmp 1)) rfl ?_); refine wpList_boxing _ w1 rfl 26 (.tmp 1) rfl (pcC p V) H rfl (by exact HR.out.sz) (by exact HR.out.al) ?_))
    go_ret
    exact ⟨ret_bool HE.out.symm, HC.out⟩
def idxP (a : Lk) (L : List Pv) : Int := match L.findIdx? (fun x => fitsP a.p a.sum x.p) with | some i => (i : Int) | none => -1
set_option maxHeartbeats 3200000 in
theorem rindex_any (a : Lk) (A : Option Addr) (C : Nat) (L : List Pv) (w : World) (h : RwV kdP elP w A C L) : Calls Tryz.prog 91 #[.slice A L.length C, .func (.func 92) #[.agg (lkC a)] #[]] w (Ans (.int .i64 (idxP a L)) w) := by
  have HV := Lib.hid h
  have hle := h.le
  have hnil : A = none → L.length = 0 := fun e => by
    rcases Nat.eq_zero_or_pos L.length with q | q
    · exact q
    · obtain ⟨b, o, e2, _⟩ := h.at' q
      rw [e] at e2; cases e2
  have hcap := h.cap
  clear h
  obtain ⟨n, hn⟩ : ∃ n, n = L.length := ⟨_, rfl⟩
  have HNL := Lib.hid hn
  rw [← hn] at hle hcap hnil ⊢
  have HNI := Lib.hid hnil
  clear hn hnil
  go_enter Tryz.func91, Tryz.ntmps91
  go_wp2
  go_loopw [5, 8, 9, 10, 11, 12, 13, 14, 15, 16] (fun _ i _ _ _ _ _ _ _ _ wr => ∃ k : Nat, k ≤ n ∧ i = .int .i64 k ∧ Hid (Ch (fun _ => False) w wr) ∧ Hid (∀ c x, c < k → L[c]? = some x → fitsP a.p a.sum x.p = false)) (fun _ i _ _ _ _ _ _ _ _ _ => n - (intOf i).toNat)
  case atStart => exact ⟨0, Nat.zero_le _, rfl, Lib.hid (Ch.refl _ w), Lib.hid fun c x hc _ => absurd hc (Nat.not_lt_zero c)⟩
  case round =>
    obtain ⟨k, hk, rfl, HC, HB⟩ := hrel
    by_cases hlt : k < n
    · have i1 : (0 : Int) ≤ (k : Int) := Int.natCast_nonneg _
      have i2 : (k : Int) < (n : Int) := by omega
      obtain ⟨b, o, rfl, hcells⟩ := (HV.out.gr HC.out).at' (by rw [← HNL.out]; omega)
      obtain ⟨x, hx⟩ : ∃ x, L[k]? = some x := ⟨L[k]'(by rw [← HNL.out]; exact hlt), List.getElem?_eq_getElem _⟩
      have hrg : wr.rangeAt b (o + k * 7) (pcC x.p x.V).toList := fun j u hu => hcells k x hx j u hu
      have HLD := Lib.hid (show (loadVar 26 ⟨b, o + k * 7, none⟩).run Tryz.prog wr = .ok (.agg (pcC x.p x.V)) wr from run_loadVar_mid wr b (o + k * 7) _ (pcC x.p x.V).toList _ hrg Tryz.underlying26 rfl (show _ = some 7 by kernel_rfl))
      have HX := Lib.hid hx
      have HLT := Lib.hid hlt
      clear hcells hrg hx hlt
      cases hf : fitsP a.p a.sum x.p
      · have HF := Lib.hid hf
        clear hf
        go_wp2_with (first
          | ((with_reducible refine wpList_isOp (.load 26 (.tmp 14)) rfl ?_); refine wpList_loading _ rfl 26 (.tmp 14) rfl (.agg (pcC x.p x.V)) ⟨b, o + k * 7, none⟩ rfl (by exact HLD.out) ?_)
          | (go_at_call 92; refine (rfits_any a x.p x.V _).mono ?_; rintro e w2 ⟨rfl, hc2⟩; rw [HF.out]))
        go_roundw
        case rel => exact ⟨k + 1, HLT.out, by go_num, Lib.hid (HC.out.trans hc2), Lib.hid fun c y hc hy => by
          by_cases q : c < k
          · exact HB.out c y q hy
          · obtain rfl : c = k := by omega
            rw [HX.out] at hy
            injection hy with hy
            rw [← hy]
            exact HF.out⟩
        case measure => have := HLT.out; simp [intOf]; omega
      · have HF := Lib.hid hf
        have HE := Lib.hid (show idxP a L = (k : Int) by
          have : L.findIdx? (fun x => fitsP a.p a.sum x.p) = some k := by
            rw [List.findIdx?_eq_some_iff_getElem]
            refine ⟨by rw [← HNL.out]; exact HLT.out, ?_, fun j hj => ?_⟩
            · have := HX.out
              rw [List.getElem?_eq_some_iff] at this
              obtain ⟨h1, h2⟩ := this
              rw [h2]; exact HF.out
            · have hjl : j < L.length := by have := HLT.out; rw [← HNL.out]; omega
              have := HB.out j _ hj (List.getElem?_eq_getElem hjl)
              simp [this]
          unfold idxP
          rw [this])
        clear hf
        go_wp2_with (first
          | ((with_reducible refine wpList_isOp (.load 26 (.tmp 14)) rfl ?_); refine wpList_loading _ rfl 26 (.tmp 14) rfl (.agg (pcC x.p x.V)) ⟨b, o + k * 7, none⟩ rfl (by exact HLD.out) ?_)
          | (go_at_call 92; refine (rfits_any a x.p x.V _).mono ?_; rintro e w2 ⟨rfl, hc2⟩; rw [HF.out]))
        go_ret
        exact ⟨ret_int HE.out.symm, HC.out.trans hc2⟩
    · obtain rfl : k = n := by omega
      have HE := Lib.hid (show idxP a L = -1 by
        have : L.findIdx? (fun x => fitsP a.p a.sum x.p) = none := by
          rw [List.findIdx?_eq_none_iff]
          intro x hx
          obtain ⟨i, hi, rfl⟩ := List.getElem_of_mem hx
          exact HB.out i _ (by rw [HNL.out]; exact hi) (List.getElem?_eq_getElem hi)
        unfold idxP
        rw [this])
      clear hlt hk
      go_wp2
      go_ret
      exact ⟨ret_int HE.out.symm, HC.out⟩
def sumR (vol : Int) (g : Ge) (p : Pn) : Int := (Crc.sumZ 256 (sectR vol g 0 p) : Int)
set_option maxHeartbeats 1600000 in
theorem rgSum_any (vol : Int) (g : Ge) (p : Pn) (V : Value) (w : World) (hv : N64 vol) (hr : rokB vol g 0 p = true) (h : PcIs w p V) : Calls Tryz.prog 94 #[.int .i64 vol, .agg (geC g), .agg (pcC p V)] w (Ans (.int .i64 (sumR vol g p)) w) := by
  obtain ⟨w0, HG, hG⟩ := geR w g
  obtain ⟨w1, H, hR⟩ := boxR w0 (pcC p V) 26
  have HLp := Lib.hid (load_pc hR.cx)
  obtain ⟨x0, x1, x2, x3⟩ := hG.x.gr hR.ch
  have HC := Lib.hid (hG.ch.trans hR.ch)
  have HS := Lib.hid (rsector_any vol g 0 p V w1 hv ((h.gr hG.ch).gr hR.ch))
  have HB := Lib.hid h.byt
  have HN := Lib.hid (show secRN vol g 0 p = 256 by unfold secRN; rw [hr]; rfl)
  have HG' := Lib.hid hG
  have HR := Lib.hid hR
  clear hG hR h hr hv
  go_enter Tryz.func94, Tryz.ntmps94
  go_wp2_with (first | ((with_reducible refine wpList_isOp (.box 23 (.tmp 1)) rfl ?_); refine wpList_boxing _ w0 rfl 23 (.tmp 1) rfl (geC g) HG rfl (by exact HG'.out.sz) (by exact HG'.out.al) ?_) | ((with_reducible refine wpList_isOp (.box 26 (.tmp 2)) rfl ?_); refine wpList_boxing _ w1 rfl 26 (.tmp 2) rfl (pcC p V) H rfl (by exact HR.out.sz) (by exact HR.out.al) ?_) | ((with_reducible refine wpList_isOp (.load 26 (.tmp 5)) rfl ?_); refine wpList_loading _ rfl 26 (.tmp 5) rfl (.agg (pcC p V)) ⟨H, 0, none⟩ rfl (by exact HLp.out) ?_))
  refine HS.out.mono ?_
  rintro e w2 ⟨A, C, rfl, ho, hc⟩
  rw [HN.out] at ho ⊢
  have hrow := ownsRow_rowV ho (by omega) (sectR_b HB.out 256)
  have HSU := Lib.hid (sum_any A 256 C (sectR vol g 0 p) w2 hrow)
  have HC2 := Lib.hid (HC.out.trans hc)
  have HE := Lib.hid (show sumR vol g p = (Crc.sumZ 256 (sectR vol g 0 p) : Int) from rfl)
  clear ho hc hrow
  go_wp2_with (go_at_call 116; refine HSU.out.mono ?_; rintro e w3 ⟨rfl, hc3⟩)
  go_ret
  exact ⟨ret_int HE.out.symm, HC2.out.trans hc3⟩
end Go.Proofs.YteleknojohnlbaaGreat
