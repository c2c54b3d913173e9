/-
  ring's links: the run that is taken, and the function that hands it on. Plain: oF (what a mirror tells of a number), cdM (the candidates of a number), runR (the run); LkOk; ItR (how the iterator stands between two regions), KpI, GvI, SI, SpI; links_given.
-/
import Derived.Test.YteleknojohnlbaaGreatMc27
import Derived.Test.YteleknojohnlbaaGreatMc29
import Derived.Test.YteleknojohnlbaaGreatMc16
import Derived.Sort.CutIn
namespace Go.Proofs.YteleknojohnlbaaGreat
open Go.RowKit
set_option linter.unusedVariables false
set_option maxRecDepth 100000
set_option linter.unusedSimpArgs false
attribute [local go_sem] Oper.semAt_some wide_fn wide_depth
open Classical in
noncomputable def oF (m : Mi) (s c : Nat) : Option Pn := if h : ∃ o, TellsM m s c o then h.choose else none
theorem oF_eq {m : Mi} {s c : Nat} {o : Option Pn} (h : TellsM m s c o) : o = oF m s c := by
  have hx : ∃ o, TellsM m s c o := ⟨o, h⟩
  unfold oF
  rw [dif_pos hx]
  exact tellR_one h hx.choose_spec
noncomputable def cdM (m : Mi) (s : Nat) : List Pn := candR (atS (oF m s 0) (s : Int)) (atS (oF m s 1) (s : Int))
def sumM (m : Mi) (p : Pn) : Int := sumR m.vol m.g.ge p
def clM (m : Mi) (q : Nat) : Bool := cleanM m q 0 || cleanM m q 1
noncomputable def runR (m : Mi) : Nat → Pn → Int → Nat → List Pn × Bool
  | 0, _, _, _ => ([], false)
  | f + 1, a, s, k => match (cdM m k).find? (fitsP a s) with
    | some p => (p :: (runR m f p (sumM m p) (k + 1)).1, (runR m f p (sumM m p) (k + 1)).2)
    | none => ([], !(clM m (k % m.g.W)))
theorem run_zero (m : Mi) (a : Pn) (s : Int) (k : Nat) : runR m 0 a s k = ([], false) := rfl
theorem run_some {m : Mi} {f : Nat} {a p : Pn} {s : Int} {k : Nat} (h : (cdM m k).find? (fitsP a s) = some p) : runR m (f + 1) a s k = (p :: (runR m f p (sumM m p) (k + 1)).1, (runR m f p (sumM m p) (k + 1)).2) := by
  show (match (cdM m k).find? (fitsP a s) with | some p => _ | none => _) = _
  rw [h]
theorem run_none {m : Mi} {f : Nat} {a : Pn} {s : Int} {k : Nat} (h : (cdM m k).find? (fitsP a s) = none) : runR m (f + 1) a s k = ([], !(clM m (k % m.g.W))) := by
  show (match (cdM m k).find? (fitsP a s) with | some p => _ | none => _) = _
  rw [h]
theorem atS_seq {o : Option Pn} {s : Int} {p : Pn} (h : atS o s = some p) : o = some p ∧ p.seq = s := by
  cases o with
  | none => cases h
  | some q =>
    unfold atS at h
    simp only at h
    split at h
    · rename_i e; cases h; exact ⟨rfl, e⟩
    · cases h
theorem mem_cand {c0 c1 : Option Pn} {p : Pn} (h : p ∈ candR c0 c1) : c0 = some p ∨ c1 = some p := by
  cases c0 with
  | none =>
    cases c1 with
    | none => cases h
    | some b => have : p = b := by simpa [candR] using h
                exact Or.inr (by rw [this])
  | some a =>
    cases c1 with
    | none => have : p = a := by simpa [candR] using h
              exact Or.inl (by rw [this])
    | some b =>
      unfold candR at h
      simp only at h
      split at h
      · rcases List.mem_cons.1 h with q | q
        · exact Or.inr (by rw [q])
        · exact Or.inl (by rw [List.mem_singleton.1 q])
      · rcases List.mem_cons.1 h with q | q
        · exact Or.inl (by rw [q])
        · exact Or.inr (by rw [List.mem_singleton.1 q])
structure Cand (m : Mi) (s : Nat) (p : Pn) : Prop where
  seq : p.seq = (s : Int)
  may : MayPn p
  rok : rokB m.vol m.g.ge 0 p = true
  byt : ∀ c ∈ p.B, c < 256
theorem cand_of {m : Mi} {s c : Nat} {p : Pn} (h : ∃ o, TellsM m s c o) (e : atS (oF m s c) (s : Int) = some p) : Cand m s p := by
  obtain ⟨h1, h2⟩ := atS_seq e
  obtain ⟨o, ho⟩ := h
  have e1 := oF_eq ho
  rw [h1] at e1
  have ht := (ho p).1 e1
  obtain ⟨r1, r2, r3, r4⟩ := rokB_iff.1 ht.sec
  exact ⟨h2, mayP_iff.1 r1, rokB_iff.2 ⟨r1, r2, by decide, r4⟩, ht.byt⟩
theorem idx_find {a : Lk} {L : List Pv} : (idxP a L = -1 ∧ (L.map Pv.p).find? (fitsP a.p a.sum) = none) ∨ (∃ (i : Nat) (x : Pv), idxP a L = (i : Int) ∧ L[i]? = some x ∧ x ∈ L ∧ (L.map Pv.p).find? (fitsP a.p a.sum) = some x.p) := by
  unfold idxP
  cases hf : L.findIdx? (fun x => fitsP a.p a.sum x.p) with
  | none =>
    refine Or.inl ⟨rfl, ?_⟩
    rw [List.findIdx?_eq_none_iff] at hf
    rw [List.find?_eq_none]
    intro p hp
    obtain ⟨x, hx, rfl⟩ := List.mem_map.1 hp
    rw [hf x hx]
    exact fun e => by cases e
  | some i =>
    rw [List.findIdx?_eq_some_iff_getElem] at hf
    obtain ⟨hi, h1, h2⟩ := hf
    refine Or.inr ⟨i, L[i], rfl, List.getElem?_eq_getElem hi, List.getElem_mem hi, ?_⟩
    rw [List.find?_eq_some_iff_getElem]
    refine ⟨h1, i, by simpa using hi, by simp, fun j hj => ?_⟩
    rw [List.getElem_map]
    have := h2 j hj
    simpa using this
structure LkOk (m : Mi) (x : Lk) : Prop where
  ofn : 1 ≤ x.p.ofn ∧ x.p.ofn ≤ 64
  len : x.p.B.length ≤ 200
  sum : x.sum = sumM m x.p
structure KpI (n0 X N : Nat) (W W' : World) : Prop where
  os : W'.os = W.os
  tape : W'.tape = W.tape
  output : W'.output = W.output
  size : W.heap.size ≤ W'.heap.size
  low : ∀ i, i < n0 → W'.heap[i]? = W.heap[i]?
  cells : ∀ i c t f, i ≤ N → i ≠ X → W.heap[i]? = some (.cells c t f) → W'.heap[i]? = some (.cells c t f)
theorem KpI.trans {n0 X N : Nat} {A B C : World} (h : KpI n0 X N A B) (k : KpI n0 X N B C) : KpI n0 X N A C :=
  ⟨k.os.trans h.os, k.tape.trans h.tape, k.output.trans h.output, Nat.le_trans h.size k.size, fun i hi => (k.low i hi).trans (h.low i hi), fun i c t f hi hx hc => k.cells i c t f hi hx (h.cells i c t f hi hx hc)⟩
theorem KpI.put {n0 X N l : Nat} {W : World} {o o' : Obj} (hl : n0 ≤ l) (ho : W.heap[l]? = some o) (hc : o.isCells = false) : KpI n0 X N W (W.putObj l o') :=
  ⟨rfl, rfl, rfl, by simp [World.putObj], fun i hi => World.putObj_heap_other (by omega), fun i c t f _ _ h => (World.putObj_heap_other (fun e => by
    rw [e] at h; rw [h] at ho; cases ho; cases hc)).trans h⟩
structure ItR (m : Mi) (w0 : World) (start chain : Int) (H Bs Bc X N : Nat) (wr : World) (a : Lk) : Prop where
  ch : Ch (fun _ => False) w0 wr
  hH : wr.heap[H]? = some (.cells (miC m) 94 (0, 0))
  hs : wr.heap[Bs]? = some (.cells #[.int .i64 start] 3 (0, 0))
  hc : wr.heap[Bc]? = some (.cells #[.int .i64 chain] 3 (0, 0))
  hD : wr.heap[N]? = some (.cells (lkC a) 100 (0, 0))
  lt : H < N ∧ Bs < N ∧ Bc < N
  ne : H ≠ X ∧ Bs ≠ X ∧ Bc ≠ X ∧ N ≠ X
  w0 : w0.heap.size ≤ N
section
variable {m : Mi} {w0 wr wx : World} {start chain : Int} {H Bs Bc X N : Nat} {a : Lk}
theorem ItR.gr (h : ItR m w0 start chain H Bs Bc X N wr a) (k : Ch (fun _ => False) wr wx) : ItR m w0 start chain H Bs Bc X N wx a :=
  ⟨h.ch.trans k, (k.block _ (blk_lt h.hH) (fun f => f)).trans h.hH, (k.block _ (blk_lt h.hs) (fun f => f)).trans h.hs, (k.block _ (blk_lt h.hc) (fun f => f)).trans h.hc, (k.block _ (blk_lt h.hD) (fun f => f)).trans h.hD, h.lt, h.ne, h.w0⟩
theorem ItR.kp (h : ItR m w0 start chain H Bs Bc X N wr a) (k : KpI w0.heap.size X N wr wx) : ItR m w0 start chain H Bs Bc X N wx a :=
  ⟨⟨k.os.trans h.ch.os, k.tape.trans h.ch.tape, k.output.trans h.ch.output, Nat.le_trans h.ch.size k.size, fun i hi hS => (k.low i hi).trans (h.ch.block i hi hS)⟩, k.cells _ _ _ _ (Nat.le_of_lt h.lt.1) h.ne.1 h.hH, k.cells _ _ _ _ (Nat.le_of_lt h.lt.2.1) h.ne.2.1 h.hs, k.cells _ _ _ _ (Nat.le_of_lt h.lt.2.2) h.ne.2.2.1 h.hc, k.cells _ _ _ _ (Nat.le_refl _) h.ne.2.2.2 h.hD, h.lt, h.ne, h.w0⟩
theorem ItR.set (h : ItR m w0 start chain H Bs Bc X N wr a) {b : Lk} (k : Ch (fun i => i = N) wr wx) (hb : wx.heap[N]? = some (.cells (lkC b) 100 (0, 0))) : ItR m w0 start chain H Bs Bc X N wx b :=
  ⟨h.ch.new (k.mono fun i _ hi => by rw [hi]; exact h.w0), (k.block _ (blk_lt h.hH) (by have := h.lt; omega)).trans h.hH, (k.block _ (blk_lt h.hs) (by have := h.lt; omega)).trans h.hs, (k.block _ (blk_lt h.hc) (by have := h.lt; omega)).trans h.hc, hb, h.lt, h.ne, h.w0⟩
end
theorem grown_ch {a b : World} (h : Ch (fun _ => False) a b) : a.grownBy b none := ⟨h.os, h.tape, h.output, h.size, fun k hk _ => h.block k hk (fun f => f)⟩
theorem grown_at {a b : World} {N : Nat} (h : Ch (fun i => i = N) a b) : a.grownBy b (some N) := ⟨h.os, h.tape, h.output, h.size, fun k hk hn => h.block k hk (fun e => hn (by rw [e]))⟩
theorem AbidesX.gr {β : Type} {N : Nat} {J : β → World → Prop} (hJ : AbidesX N J) {x : β} {a b : World} (h : J x a) (k : Ch (fun _ => False) a b) : J x b := hJ _ _ _ none h (grown_ch k) fun _ e => by cases e
theorem AbidesX.set {β : Type} {N : Nat} {J : β → World → Prop} (hJ : AbidesX N J) {x : β} {a b : World} (h : J x a) (k : Ch (fun i => i = N) a b) : J x b := hJ _ _ _ (some N) h (grown_at k) fun _ e => Or.inr (by cases e; rfl)
theorem built_lkc (c : Int) (w : World) : (Instr.build 100 #[(1, .int .i64 c)]).run Tryz.prog w = .ok (.agg (lkC (lk0 c))) w := run_build w _ _ _ (by kernel_rfl)
theorem built_lk (p : Pn) (V : Value) (c : Int) (w : World) : (Instr.build 100 #[(0, .agg (pcC p V)), (1, .int .i64 c)]).run Tryz.prog w = .ok (.agg (lkC ⟨p, V, c⟩)) w := run_build w _ _ _ (by kernel_rfl)
theorem exec_build {P : Program} {o : Oper} {a : Act} {w : World} (t : TypeId) (parts : Array (Nat × Operand)) (ho : o.op = .build t parts) (v : Value) (hr : (Instr.build t (parts.map fun (i, x) => (i, a.eval x))).run P w = .ok v w) : (execOp a.eval o).run P w = .ok (.value v) w := by
  unfold execOp
  simp only [ho, Sem.run_bind, Sem.run_pure, Result.andThen_ok, hr]
theorem exec_link {o : Oper} {a : Act} {w : World} (p : Pn) (V : Value) (c : Int) (ho : o.op = .build 100 #[(0, .tmp 44), (1, .tmp 53)]) (h1 : a.eval (.tmp 44) = .agg (pcC p V)) (h2 : a.eval (.tmp 53) = .int .i64 c) : (execOp a.eval o).run Tryz.prog w = .ok (.value (.agg (lkC ⟨p, V, c⟩))) w := by
  refine exec_build _ _ ho _ ?_
  rw [show (#[(0, Operand.tmp 44), (1, Operand.tmp 53)] : Array (Nat × Operand)).map (fun (i, x) => (i, a.eval x)) = #[(0, .agg (pcC p V)), (1, .int .i64 c)] by simp [h1, h2]]
  exact built_lk p V c w
structure StLk (w w1 : World) (H : Nat) (x : Lk) : Prop where
  st : (storeVar 100 ⟨H, 0, none⟩ (.agg (lkC x))).run Tryz.prog w = .ok () w1
  cx : w1.heap[H]? = some (.cells (lkC x) 100 (0, 0))
  ch : Ch (fun j => j = H) w w1
theorem stLk {w : World} {H : Nat} {a : Lk} (x : Lk) (h : w.heap[H]? = some (.cells (lkC a) 100 (0, 0))) (hV : SlV x.V) : ∃ w1, StLk w w1 H x :=
  ⟨_, run_storeVar_row w H _ _ (lkC a) (lkC x) h size_lk rfl (one_lk x hV), setRow_heap w H (lkC a) _ _ (0, 0) h, (Ch.refl (fun j => j = H) w).setRow (g := H) (Or.inl rfl) _⟩
theorem load_lk {w : World} {H : Nat} {x : Lk} (h : w.heap[H]? = some (.cells (lkC x) 100 (0, 0))) : (loadVar 100 ⟨H, 0, none⟩).run Tryz.prog w = .ok (.agg (lkC x)) w := (var_lkx h).load
theorem load_mi {w : World} {H : Nat} {m : Mi} (h : w.heap[H]? = some (.cells (miC m) 94 (0, 0))) : (loadVar 94 ⟨H, 0, none⟩).run Tryz.prog w = .ok (.agg (miC m)) w :=
  run_loadVar_row w H _ _ (miC m) (0, 0) _ h Tryz.underlying94 rfl (show _ = some 7 by kernel_rfl)
def HoldM (m : Mi) (H : Nat) (w : World) : Prop := (fun w' => w'.cell? ⟨H, 0, none⟩ = some (.int .i64 m.vol) ∧ w'.cell? ⟨H, 1, none⟩ = some (.int .i64 (m.g.W : Int)) ∧ w'.cell? ⟨H, 2, none⟩ = some (.int .i64 (m.g.S : Int)) ∧ w'.cell? ⟨H, 3, none⟩ = some (.int .i64 (m.g.K : Int)) ∧ w'.cell? ⟨H, 4, none⟩ = some (.int .i64 (m.g.M : Int)) ∧ w'.cell? ⟨H, 5, none⟩ = some (.slice (m.A 0) m.g.W (m.C 0)) ∧ w'.cell? ⟨H, 6, none⟩ = some (.slice (m.A 1) m.g.W (m.C 1))) w
theorem holdM_gr {m : Mi} {H : Nat} {w w' : World} (h : HoldM m H w) (k : Ch (fun _ => False) w w') : HoldM m H w' := by
  obtain ⟨s0, s1, s2, s3, s4, s5, s6⟩ := h
  exact ⟨k.cell s0 (fun f => f), k.cell s1 (fun f => f), k.cell s2 (fun f => f), k.cell s3 (fun f => f), k.cell s4 (fun f => f), k.cell s5 (fun f => f), k.cell s6 (fun f => f)⟩
theorem holdM_of {m : Mi} {H : Nat} {w : World} (h : w.heap[H]? = some (.cells (miC m) 94 (0, 0))) : HoldM m H w := ⟨blk_cell h, blk_cell h, blk_cell h, blk_cell h, blk_cell h, blk_cell h, blk_cell h⟩
theorem HoldM.all {m : Mi} {H : Nat} {w : World} (h : HoldM m H w) : (fun w' => w'.cell? ⟨H, 0, none⟩ = some (.int .i64 m.vol) ∧ w'.cell? ⟨H, 1, none⟩ = some (.int .i64 (m.g.W : Int)) ∧ w'.cell? ⟨H, 2, none⟩ = some (.int .i64 (m.g.S : Int)) ∧ w'.cell? ⟨H, 3, none⟩ = some (.int .i64 (m.g.K : Int)) ∧ w'.cell? ⟨H, 4, none⟩ = some (.int .i64 (m.g.M : Int)) ∧ w'.cell? ⟨H, 5, none⟩ = some (.slice (m.A 0) m.g.W (m.C 0)) ∧ w'.cell? ⟨H, 6, none⟩ = some (.slice (m.A 1) m.g.W (m.C 1))) w := h
def Hold9 (m : Mi) (H b O : Nat) (x : Pv) (w : World) : Prop := (fun w' => (w'.cell? ⟨b, O, none⟩ = some (.int .i64 x.p.seq) ∧ w'.cell? ⟨b, O + 1, none⟩ = some (.int .i64 x.p.ep) ∧ w'.cell? ⟨b, O + 2, none⟩ = some (.int .i64 x.p.fr) ∧ w'.cell? ⟨b, O + 3, none⟩ = some (.int .i64 x.p.ch) ∧ w'.cell? ⟨b, O + 4, none⟩ = some (.int .i64 x.p.ix) ∧ w'.cell? ⟨b, O + 5, none⟩ = some (.int .i64 x.p.ofn) ∧ w'.cell? ⟨b, O + 6, none⟩ = some x.V) ∧ (w'.cell? ⟨H, 0, none⟩ = some (.int .i64 m.vol) ∧ w'.cell? ⟨H, 1, none⟩ = some (.int .i64 (m.g.W : Int)) ∧ w'.cell? ⟨H, 2, none⟩ = some (.int .i64 (m.g.S : Int)) ∧ w'.cell? ⟨H, 3, none⟩ = some (.int .i64 (m.g.K : Int)) ∧ w'.cell? ⟨H, 4, none⟩ = some (.int .i64 (m.g.M : Int)) ∧ w'.cell? ⟨H, 5, none⟩ = some (.slice (m.A 0) m.g.W (m.C 0)) ∧ w'.cell? ⟨H, 6, none⟩ = some (.slice (m.A 1) m.g.W (m.C 1)))) w
theorem hold9_ch {m : Mi} {H b O : Nat} {x : Pv} {w w' : World} {S : Nat → Prop} (h : Hold9 m H b O x w) (k : Ch S w w') (hb : ¬ S b) (hH : ¬ S H) : Hold9 m H b O x w' := by
  obtain ⟨⟨q0, q1, q2, q3, q4, q5, q6⟩, s0, s1, s2, s3, s4, s5, s6⟩ := h
  exact ⟨⟨k.cell q0 hb, k.cell q1 hb, k.cell q2 hb, k.cell q3 hb, k.cell q4 hb, k.cell q5 hb, k.cell q6 hb⟩, k.cell s0 hH, k.cell s1 hH, k.cell s2 hH, k.cell s3 hH, k.cell s4 hH, k.cell s5 hH, k.cell s6 hH⟩
theorem hold9_gr {m : Mi} {H b O : Nat} {x : Pv} {w w' : World} (h : Hold9 m H b O x w) (k : Ch (fun _ => False) w w') : Hold9 m H b O x w' := hold9_ch h k (fun f => f) (fun f => f)
theorem hold9_set {m : Mi} {H b O D : Nat} {x : Pv} {w w' : World} (h : Hold9 m H b O x w) (k : Ch (fun i => i = D) w w') (hb : b ≠ D) (hH : H ≠ D) : Hold9 m H b O x w' := hold9_ch h k hb hH
def encI (x : Lk × Int) : Array Value := #[.agg (lkC x.1), .int .i64 x.2]
def GvI (m : Mi) (wB : World) (N : Nat) (x : Lk × Int) (V : World) : Prop := N < V.heap.size ∧ SlV x.1.V ∧ (x.2 = 0 ∨ x.2 = 22) ∧ (x.2 = 0 → LkOk m x.1 ∧ ByN elL wB V x.1)
noncomputable def allI (m : Mi) (start : Nat) (chain : Int) : List Pn × Bool := runR m m.g.W pn0 chain start
def SI (m : Mi) (start : Nat) (chain : Int) (ys : List (Lk × Int)) : Prop := (∀ y ∈ ys, y.2 = 0) → (allI m start chain).2 = false ∧ ys.map (fun y => y.1.p) = (allI m start chain).1
def SpI (m : Mi) (start : Nat) (chain : Int) (ys : List (Lk × Int)) : Prop := (∃ y ∈ ys, y.2 ≠ 0) → (allI m start chain).2 = true
structure PreI (m : Mi) (start : Nat) (chain : Int) (k : Nat) (pre : List (Lk × Int)) (a : Lk) : Prop where
  len : pre.length = k
  ok : ∀ y ∈ pre, y.2 = 0
  run : allI m start chain = (pre.map (fun y => y.1.p) ++ (runR m (m.g.W - k) a.p a.sum (start + k)).1, (runR m (m.g.W - k) a.p a.sum (start + k)).2)
theorem PreI.start (m : Mi) (start : Nat) (chain : Int) : PreI m start chain 0 [] (lk0 chain) := ⟨rfl, (fun _ hy => by simp at hy), rfl⟩
theorem PreI.next {m : Mi} {start : Nat} {chain : Int} {k : Nat} {pre : List (Lk × Int)} {a : Lk} (h : PreI m start chain k pre a) (hk : k < m.g.W) {p : Pn} (hp : (cdM m (start + k)).find? (fitsP a.p a.sum) = some p) (V : Value) : PreI m start chain (k + 1) (pre ++ [(⟨p, V, sumM m p⟩, 0)]) ⟨p, V, sumM m p⟩ := by
  refine ⟨by rw [List.length_append, h.len]; rfl, fun y hy => ?_, ?_⟩
  · rcases List.mem_append.1 hy with q | q
    · exact h.ok y q
    · rw [List.mem_singleton.1 q]
  · have hr := h.run
    rw [show m.g.W - k = (m.g.W - (k + 1)) + 1 by omega, run_some hp] at hr
    rw [hr, List.map_append, List.append_assoc]
    rfl
theorem meas_lt {s e : Nat} (h : wrap64 ((s : Int) + 1) = ((s + 1 : Nat) : Int)) (hz : s < e) : e - (intOf (.int .i64 (wrap64 ((s : Int) + 1)))).toNat < e - (intOf (.int .i64 (s : Int))).toNat := by
  rw [h]
  show e - (((s + 1 : Nat) : Int)).toNat < e - ((s : Int)).toNat
  omega
theorem PreI.next2 {m : Mi} {start : Nat} {chain : Int} {k : Nat} {pre : List (Lk × Int)} {a : Lk} (h : PreI m start chain k pre a) (hk : k < m.g.W) {p : Pn} (hp : (cdM m (start + k)).find? (fitsP a.p a.sum) = some p) (V : Value) {sg : Int} (hs : sg = sumM m p) : PreI m start chain (k + 1) (pre ++ [(⟨p, V, sg⟩, 0)]) ⟨p, V, sg⟩ := by
  subst hs; exact h.next hk hp V
theorem PreI.full {m : Mi} {start : Nat} {chain : Int} {pre : List (Lk × Int)} {a : Lk} (h : PreI m start chain m.g.W pre a) : SI m start chain pre := fun _ => by
  rw [h.run, Nat.sub_self, run_zero]
  exact ⟨rfl, (List.append_nil _).symm⟩
theorem PreI.ended {m : Mi} {start : Nat} {chain : Int} {k : Nat} {pre : List (Lk × Int)} {a : Lk} (h : PreI m start chain k pre a) (hk : k < m.g.W) (hp : (cdM m (start + k)).find? (fitsP a.p a.sum) = none) (hc : clM m ((start + k) % m.g.W) = true) : SI m start chain pre := fun _ => by
  rw [h.run, show m.g.W - k = (m.g.W - (k + 1)) + 1 by omega, run_none hp, hc]
  exact ⟨rfl, (List.append_nil _).symm⟩
theorem PreI.hurt {m : Mi} {start : Nat} {chain : Int} {k : Nat} {pre : List (Lk × Int)} {a : Lk} (h : PreI m start chain k pre a) (hk : k < m.g.W) (hp : (cdM m (start + k)).find? (fitsP a.p a.sum) = none) (hc : clM m ((start + k) % m.g.W) = false) : (allI m start chain).2 = true := by
  rw [h.run, show m.g.W - k = (m.g.W - (k + 1)) + 1 by omega, run_none hp, hc]
  rfl
theorem si_bad {m : Mi} {start : Nat} {chain : Int} {pre : List (Lk × Int)} {x : Lk × Int} (hx : x.2 ≠ 0) : SI m start chain (pre ++ [x]) := fun h => absurd (h x (List.mem_append_right _ (List.mem_singleton.2 rfl))) hx
theorem PreI.sp {m : Mi} {start : Nat} {chain : Int} {k : Nat} {pre : List (Lk × Int)} {a : Lk} (h : PreI m start chain k pre a) : SpI m start chain pre := fun ⟨y, hy, e⟩ => absurd (h.ok y hy) e
theorem mclean_cl (m : Mi) (q : Nat) (w : World) (h : MiIs w m) (hq : q < m.g.W) : Calls Tryz.prog 93 #[.agg (miC m), .int .i64 (q : Int)] w (Ans (.bool (clM m q)) w) := mclean_any m q w h hq
set_option maxHeartbeats 25600000 in
theorem links1_in (n : Nat) (hn : 1 ≤ n) (m : Mi) (w0 wB : World) (start : Nat) (chain : Int) (H Bs Bc X N l : Nat) (hm : MiIs w0 m) (hst : start ≤ 4294967295) (hB : wB.heap.size = N + 1) (J Jx : List (Lk × Int) → World → Prop) (hJ : AbidesX N J) (hJx : AbidesX N Jx)
    (hY : ∀ pre x V, J pre V → GvI m wB N x V → pre.length < m.g.W → YieldAt Fence.wide (n - 1) Tryz.prog l (encI x) V fun e V' => (e = .returned (.bool true) ∧ J (pre ++ [x]) V' ∧ KpI w0.heap.size X N V V') ∨ (e = .returned (.bool false) ∧ Jx (pre ++ [x]) V'))
    (W : World) (hN : W.heap.size = N) (hch : Ch (fun _ => False) w0 W) (hH : W.heap[H]? = some (.cells (miC m) 94 (0, 0))) (hs : W.heap[Bs]? = some (.cells #[.int .i64 (start : Int)] 3 (0, 0))) (hc : W.heap[Bc]? = some (.cells #[.int .i64 chain] 3 (0, 0)))
    (hX : H ≠ X ∧ Bs ≠ X ∧ Bc ≠ X ∧ X < N) (h0 : J [] W) :
    CallsIn Fence.wide n Tryz.prog 89 #[.func (.yield l) #[] #[], .pointer (some ⟨Bc, 0, none⟩), .pointer (some ⟨Bs, 0, none⟩), .pointer (some ⟨H, 0, none⟩)] W fun e W' => (∃ v, e = .returned v) ∧ ((∃ ys, SI m start chain ys ∧ J ys W') ∨ (∃ pre, SpI m start chain pre ∧ Jx pre W')) := by
  obtain ⟨wz, wx, D, hV⟩ := varLk (lk0 chain) slV_nil W
  have eD : D = N := by rw [← hV.sz, hN]
  subst eD
  have HIT := Lib.hid (show ItR m w0 start chain H Bs Bc X D wx (lk0 chain) from
    ⟨hch.trans hV.ch, (hV.ch.block _ (blk_lt hH) (fun f => f)).trans hH, (hV.ch.block _ (blk_lt hs) (fun f => f)).trans hs, (hV.ch.block _ (blk_lt hc) (fun f => f)).trans hc, hV.cx,
      by rw [← hN]; exact ⟨blk_lt hH, blk_lt hs, blk_lt hc⟩, ⟨hX.1, hX.2.1, hX.2.2.1, by omega⟩, by rw [← hN]; exact hch.size⟩)
  have HJ0 := Lib.hid (hJ.gr h0 hV.ch)
  have x1 : W.cell? ⟨Bc, 0, none⟩ = some (.int .i64 chain) := blk_cell hc
  have y1 : wx.cell? ⟨Bs, 0, none⟩ = some (.int .i64 (start : Int)) := blk_cell HIT.out.hs
  have HBT := Lib.hid (built_lkc chain W)
  have HV := Lib.hid hV
  have HM := Lib.hid hm
  have HST := Lib.hid hst
  have HJ := Lib.hid hJ
  have HJx := Lib.hid hJx
  have HY := Lib.hid hY
  have HBz := Lib.hid hB
  clear hV hH hs hc hX h0 hch hN hm hst hJ hJx hY hB
  refine callsIn_of_wp Tryz.func89 rfl trivial ?_ rfl
  simp only [Tryz.ntmps89, List.size_toArray, List.length_cons, List.length_nil, Nat.reduceAdd, Nat.reduceSub, Array.replicate_succ, Array.replicate_zero, List.push_toArray, List.append_toArray, List.nil_append, List.cons_append]
  gi_upto_region 0 with fail
  refine wpIn_wide.2 ?_
  go_wp2_with (first
    | ((with_reducible refine wpList_isOp (.build 100 #[(1, .tmp 9)]) rfl ?_); refine wpList_building _ rfl 100 #[(1, .tmp 9)] rfl _ (by exact HBT.out) ?_)
    | ((with_reducible refine wpList_isOp (.alloc 100) rfl ?_); refine wpList_making _ wz rfl 100 rfl (lkC (lk0 0)) D (zero_lk _) (by exact HV.out.sz) (by exact HV.out.al) ?_)
    | ((with_reducible refine wpList_isOp (.store 100 (.tmp 5) (.tmp 10)) rfl ?_); refine wpList_storing _ wx rfl 100 (.tmp 5) (.tmp 10) rfl (.agg (lkC (lk0 chain))) ⟨D, 0, none⟩ rfl rfl (by exact HV.out.st) ?_)
    | fail)
  gi_wp2
  gi_loopw [6, 7, 8] (fun s t7 t8 wr => ∃ (k : Nat) (pre : List (Lk × Int)) (a : Lk), s = .int .i64 ((start + k : Nat) : Int) ∧ k ≤ m.g.W ∧ Hid (ItR m w0 (start : Int) chain H Bs Bc X D wr a) ∧ Hid (J pre wr) ∧ Hid (PreI m start chain k pre a)) (fun s _ _ _ => start + m.g.W - (intOf s).toNat)
  case atStart => exact ⟨0, [], lk0 chain, by simp, Nat.zero_le _, HIT, HJ0, Lib.hid (PreI.start _ _ _)⟩
  case round =>
    clear HIT HJ0 HBT HV x1 y1
    obtain ⟨k, pre, a, rfl, hk, HI, HJp, HP⟩ := hrel
    obtain ⟨s, hs⟩ : ∃ s, s = start + k := ⟨_, rfl⟩
    obtain ⟨E, hE⟩ : ∃ E, E = start + m.g.W := ⟨_, rfl⟩
    rw [← hs]
    have hw1 := HM.out.ok.w1
    have hw2 := HM.out.ok.w2
    have hst := HST.out
    have c1 : wr.cell? ⟨Bs, 0, none⟩ = some (.int .i64 (start : Int)) := blk_cell HI.out.hs
    have c2 : wr.cell? ⟨H, 1, none⟩ = some (.int .i64 (m.g.W : Int)) := blk_cell HI.out.hH
    have e1 : wrap64 ((start : Int) + (m.g.W : Int)) = (E : Int) := by rw [IntWalk.wrap64_in _ ⟨by omega, by omega⟩]; omega
    have wz : ¬ (m.g.W : Int) = 0 := by omega
    by_cases hlt : k < m.g.W
    · have i1 : (s : Int) < (E : Int) := by omega
      have HS := Lib.hid hs
      have HE := Lib.hid hE
      have HLT := Lib.hid hlt
      have HT := Lib.hid (mtold_any m s wr (HM.out.gr HI.out.ch) (by omega))
      have HLM := Lib.hid (load_mi HI.out.hH)
      clear hs hE hlt hk hw1 hw2 hst
      gi_upto_region 4 with fail
      refine wpIn_wide.2 ?_
      go_wp2_with (first
        | ((with_reducible refine wpList_isOp (.load 94 (.tmp 3)) rfl ?_); refine wpList_loading _ rfl 94 (.tmp 3) rfl (.agg (miC m)) ⟨H, 0, none⟩ rfl (by exact HLM.out) ?_)
        | fail)
      refine HT.out.mono ?_
      rintro e w1 ⟨v, rfl, A, C, L, o0, o1, ho0, ho1, hL, rfl, hRV, hRows, hc1, hown⟩
      have HI1 := Lib.hid (HI.out.gr hc1)
      have HJ1 := Lib.hid (HJ.out.gr HJp.out hc1)
      have HLD := Lib.hid (load_lk HI1.out.hD)
      have hL' : L.map Pv.p = cdM m s := by rw [hL, oF_eq ho0, oF_eq ho1]; rfl
      have HIX := Lib.hid (rindex_any a A C L w1 hRV)
      have HRV := Lib.hid hRV
      have HL := Lib.hid hL'
      have HRO := Lib.hid hRows
      have HCN : Hid (∀ x ∈ L, Cand m s x.p) := Lib.hid fun x hx => by
        have : x.p ∈ cdM m s := by rw [← hL']; exact List.mem_map.2 ⟨x, hx, rfl⟩
        rcases mem_cand this with q | q
        · exact cand_of ⟨_, ho0⟩ q
        · exact cand_of ⟨_, ho1⟩ q
      have HC1 := Lib.hid hc1
      have HOWN := Lib.hid hown
      have HDW := Lib.hid (blk_lt HI.out.hD)
      clear hL hL' hRV hRows hc1 ho0 ho1 HT HLM hown
      go_wp2
      gi_upto_region 5 with fail
      refine wpIn_wide.2 ?_
      go_wp2_with (first
        | ((with_reducible refine wpList_isOp (.load 100 (.tmp 5)) rfl ?_); refine wpList_loading _ rfl 100 (.tmp 5) rfl (.agg (lkC a)) ⟨D, 0, none⟩ rfl (by exact HLD.out) ?_)
        | fail)
      refine HIX.out.mono ?_
      rintro e w2 ⟨rfl, hc2⟩
      have HI2 := Lib.hid (HI1.out.gr hc2)
      have HJ2 := Lib.hid (HJ.out.gr HJ1.out hc2)
      have HLM := Lib.hid (load_mi HI2.out.hH)
      obtain ⟨q, hq⟩ : ∃ q, q = s % m.g.W := ⟨_, rfl⟩
      have HWN := Lib.hid (show ¬ m.g.W = 0 by have := HM.out.ok.w1; omega)
      have HE2 := Lib.hid (show Int.tmod (s : Int) (m.g.W : Int) = (q : Int) by rw [hq]; rfl)
      have HQW := Lib.hid (show q < m.g.W by rw [hq]; exact Nat.mod_lt _ (by have := HM.out.ok.w1; omega))
      have HQ := Lib.hid hq
      have h1 : w2.cell? ⟨H, 1, none⟩ = some (.int .i64 (m.g.W : Int)) := blk_cell HI2.out.hH
      have HRV2 := Lib.hid (HRV.out.gr hc2)
      have HRO2 : Hid (∀ x ∈ L, ByN elP wr w2 x) := Lib.hid fun x hx => (HRO.out x hx).gr hc2
      clear hq hc2 c1 c2 HIX HLD HI1 HJ1 HRV HRO
      rcases idx_find (a := a) (L := L) with ⟨hi, hf⟩ | ⟨i, x, hi, hx, hxm, hf⟩
      · as_aux_lemma =>
        rw [hi]
        rw [HL.out] at hf
        have HF := Lib.hid hf
        clear hf hi
        have HCL := Lib.hid (fun w (h : Ch (fun _ => False) w2 w) => mclean_cl m q w (HM.out.gr (HI2.out.ch.trans h)) HQW.out)
        have HM2 := Lib.hid (holdM_of HI2.out.hH)
        go_wp2
        gi_upto_region 7 with fail
        refine wpIn_wide.2 ?_
        clear h1 wz
        --REGION7
        refine wp_region_held (S := (fun w' => w'.cell? ⟨H, 0, none⟩ = some (.int .i64 m.vol) ∧ w'.cell? ⟨H, 1, none⟩ = some (.int .i64 (m.g.W : Int)) ∧ w'.cell? ⟨H, 2, none⟩ = some (.int .i64 (m.g.S : Int)) ∧ w'.cell? ⟨H, 3, none⟩ = some (.int .i64 (m.g.K : Int)) ∧ w'.cell? ⟨H, 4, none⟩ = some (.int .i64 (m.g.M : Int)) ∧ w'.cell? ⟨H, 5, none⟩ = some (.slice (m.A 0) m.g.W (m.C 0)) ∧ w'.cell? ⟨H, 6, none⟩ = some (.slice (m.A 1) m.g.W (m.C 1)))) (by kernel_rfl) ?_
        change wpAnyH _ _ _ _ _ _ _ _ (World.drew _)
        refine wpAnyH_take (i := 0) (oi := ⟨some 30, .load 94 (.tmp 3), _, _, _, none⟩) (v := .agg (miC m)) rfl (by kernel_rfl) (by kernel_rfl) (by kernel_rfl) (fun _ _ _ h => h) (Or.inl ⟨by rfl, fun w' hS => ?_⟩) HM2.out ?_
        · obtain ⟨s0, s1, s2, s3, s4, s5, s6⟩ := hS; go_simp; rfl
        simp only [Act.put, List.setIfInBounds_toArray, List.set_cons_zero, List.set_cons_succ]
        refine wpAnyH_take (i := 1) (oi := ⟨some 31, .move (.tmp 6), _, _, _, none⟩) (v := .int .i64 (s : Int)) rfl (by kernel_rfl) (by kernel_rfl) (by kernel_rfl) (fun _ _ _ h => h) (Or.inl ⟨by rfl, fun w' hS => ?_⟩) HM2.out ?_
        · clear hS; go_simp
        simp only [Act.put, List.setIfInBounds_toArray, List.set_cons_zero, List.set_cons_succ]
        refine wpAnyH_take (i := 2) (oi := ⟨some 32, .fieldAddr 94 (.tmp 3) 1, _, _, _, none⟩) (v := .pointer (some ⟨H, 1, none⟩)) rfl (by kernel_rfl) (by kernel_rfl) (by kernel_rfl) (fun _ _ _ h => h) (Or.inl ⟨by rfl, fun w' hS => ?_⟩) HM2.out ?_
        · clear hS; go_simp
        simp only [Act.put, List.setIfInBounds_toArray, List.set_cons_zero, List.set_cons_succ]
        refine wpAnyH_take (i := 3) (oi := ⟨some 33, .fieldAddr 23 (.tmp 32) 0, _, _, _, none⟩) (v := .pointer (some ⟨H, 1, none⟩)) rfl (by kernel_rfl) (by kernel_rfl) (by kernel_rfl) (fun _ _ _ h => h) (Or.inl ⟨by rfl, fun w' hS => ?_⟩) HM2.out ?_
        · clear hS; go_simp
        simp only [Act.put, List.setIfInBounds_toArray, List.set_cons_zero, List.set_cons_succ]
        refine wpAnyH_take (i := 4) (oi := ⟨some 34, .load 3 (.tmp 33), _, _, _, none⟩) (v := .int .i64 (m.g.W : Int)) rfl (by kernel_rfl) (by kernel_rfl) (by kernel_rfl) (fun _ _ _ h => h) (Or.inl ⟨by rfl, fun w' hS => ?_⟩) HM2.out ?_
        · obtain ⟨s0, s1, s2, s3, s4, s5, s6⟩ := hS; go_simp
        simp only [Act.put, List.setIfInBounds_toArray, List.set_cons_zero, List.set_cons_succ]
        refine wpAnyH_take (i := 5) (oi := ⟨some 35, .binOp .rem 3 (.tmp 31) (.tmp 34) 3, _, _, _, none⟩) (v := .int .i64 (q : Int)) rfl (by kernel_rfl) (by kernel_rfl) (by kernel_rfl) (fun _ _ _ h => h) (Or.inl ⟨by rfl, fun w' hS => ?_⟩) HM2.out ?_
        · clear hS; go_simp; rw [if_neg HWN.out, HE2.out]
        simp only [Act.put, List.setIfInBounds_toArray, List.set_cons_zero, List.set_cons_succ]
        refine wpAnyH_ready (rs := [6]) (by kernel_rfl) (by simp) ?_
        refine AllReadyH.cons rfl (fun K hK => ?_) AllReadyH.nil
        go_simp
        refine (HCL.out w2.drew (Ch.refl (fun _ => False) w2).drew).mono ?_
        rintro e w3 ⟨rfl, hc3⟩
        have HM3 := Lib.hid (holdM_gr HM2.out ((Ch.refl (fun _ => False) w2).drew.trans hc3))
        dsimp only
        refine hK.out _ _ HM3.out (fun _ => ?_)
        clear hK K
        try simp only [Act.put, List.setIfInBounds_toArray, List.set_cons_zero, List.set_cons_succ]
        refine wpAnyH_take (i := 7) (oi := ⟨some 37, .unOp .not 4 (.tmp 36), _, _, _, none⟩) (v := .bool (!(clM m q))) rfl (by kernel_rfl) (by kernel_rfl) (by kernel_rfl) (fun _ _ _ h => h) (Or.inl ⟨by rfl, fun w' hS => ?_⟩) HM3.out ?_
        · clear hS; go_simp
        try simp only [Act.put, List.setIfInBounds_toArray, List.set_cons_zero, List.set_cons_succ]
        refine wpAnyH_done (by kernel_rfl) ?_ _
        --END7
        as_aux_lemma =>
          have HC3 := Lib.hid ((Ch.refl (fun _ => False) w2).drew.trans hc3)
          have HI3 := Lib.hid (HI2.out.gr HC3.out)
          have HJ3 := Lib.hid (HJ.out.gr HJ2.out HC3.out)
          clear hc3
          cases hcl : clM m q
          · have hlen : pre.length < m.g.W := by rw [HP.out.len]; exact HLT.out
            obtain ⟨fn, tmps, assign, body, hy, hR⟩ := HY.out pre (lk0 0, 22) w3 HJ3.out ⟨blk_lt HI3.out.hD, slV_nil, Or.inr rfl, fun e => absurd e (by decide)⟩ hlen
            have HBAD := Lib.hid (HP.out.hurt HLT.out (by rw [← HS.out]; exact HF.out) (by rw [← HS.out, ← HQ.out]; exact hcl))
            clear hcl hlen
            have hy' : (Instr.yield l #[.agg #[.int .i64 0, .int .i64 0, .int .i64 0, .int .i64 0, .int .i64 0, .int .i64 0, .slice none 0 0, .int .i64 0], .int .i64 22]).run Tryz.prog w3 = .ok (.round l fn tmps assign body) w3 := hy
            clear hy
            gi_wp2
            refine hR.mono ?_
            rintro e W3 (⟨rfl, hJ3, hk3⟩ | ⟨rfl, hJx3⟩)
            · gi_wp2
              refine bodyPost_ret (results_none rfl _ _ _) rfl ?_
              exact ⟨⟨_, rfl⟩, .inl ⟨_, si_bad (by decide), hJ3⟩⟩
            · gi_wp2
              refine bodyPost_ret (results_none rfl _ _ _) rfl ?_
              exact ⟨⟨_, rfl⟩, .inr ⟨_, fun _ => HBAD.out, hJx3⟩⟩
          · have HFIN := Lib.hid (HP.out.ended HLT.out (by rw [← HS.out]; exact HF.out) (by rw [← HS.out, ← HQ.out]; exact hcl))
            clear hcl
            gi_wp2
            refine bodyPost_ret (results_none rfl _ _ _) rfl ?_
            exact ⟨⟨_, rfl⟩, .inl ⟨pre, HFIN.out, HJ3.out⟩⟩
      · as_aux_lemma =>
        rw [hi]
        rw [HL.out] at hf
        have hil : i < L.length := (List.getElem?_eq_some_iff.1 hx).1
        obtain ⟨b, o, hA, hcells⟩ := HRV2.out.at' (by omega)
        subst hA
        obtain ⟨O, hO⟩ : ∃ O, O = o + i * 7 := ⟨_, rfl⟩
        have HS9 : Hid (Hold9 m H b O x w2) := Lib.hid ⟨by
          have g := fun j u (hu : (elP.f x)[j]? = some u) => hcells i x hx j u hu
          rw [hO]
          exact ⟨g 0 _ rfl, g 1 _ rfl, g 2 _ rfl, g 3 _ rfl, g 4 _ rfl, g 5 _ rfl, g 6 _ rfl⟩, holdM_of HI2.out.hH⟩
        have HO := Lib.hid hO.symm
        have n1 : (0 : Int) ≤ (i : Int) := Int.natCast_nonneg _
        have n2 : (i : Int) < (L.length : Int) := by omega
        have hCN := HCN.out x hxm
        have hbn := HRO2.out x hxm
        have HSV : Hid (SlV x.V) := Lib.hid (slV_row (HRV2.out.rows x hxm).1)
        have HBD : Hid (b ≠ D) := Lib.hid fun e => by have h1 := HOWN.out b o rfl; have h2 := HDW.out; omega
        have HHD : Hid (H ≠ D) := Lib.hid (Nat.ne_of_lt HI2.out.lt.1)
        have HSU : Hid (∀ w, Ch (fun _ => False) w2 w → Calls Tryz.prog 94 #[.int .i64 m.vol, .agg (geC m.g.ge), .agg (pcC x.p x.V)] w (Ans (.int .i64 (sumM m x.p)) w)) := Lib.hid fun w k => rgSum_any m.vol m.g.ge x.p x.V w (by have := HM.out.vol; unfold N64; omega) hCN.rok ⟨((HRV2.out.rows x hxm).1).gr k, hCN.byt⟩
        obtain ⟨sg, hsg⟩ : ∃ sg, sg = sumM m x.p := ⟨_, rfl⟩
        rw [← hsg] at HSU
        have HSG := Lib.hid hsg
        have HF := Lib.hid hf
        have HCAN := Lib.hid hCN
        have HBN := Lib.hid hbn
        clear hx hi hf hil hcells hO hCN hbn h1 wz hsg
        go_wp2
        gi_upto_region 9 with fail
        refine wpIn_wide.2 ?_
        --REGION9
        refine wp_region_held (S := (fun w' => (w'.cell? ⟨b, O, none⟩ = some (.int .i64 x.p.seq) ∧ w'.cell? ⟨b, O + 1, none⟩ = some (.int .i64 x.p.ep) ∧ w'.cell? ⟨b, O + 2, none⟩ = some (.int .i64 x.p.fr) ∧ w'.cell? ⟨b, O + 3, none⟩ = some (.int .i64 x.p.ch) ∧ w'.cell? ⟨b, O + 4, none⟩ = some (.int .i64 x.p.ix) ∧ w'.cell? ⟨b, O + 5, none⟩ = some (.int .i64 x.p.ofn) ∧ w'.cell? ⟨b, O + 6, none⟩ = some x.V) ∧ (w'.cell? ⟨H, 0, none⟩ = some (.int .i64 m.vol) ∧ w'.cell? ⟨H, 1, none⟩ = some (.int .i64 (m.g.W : Int)) ∧ w'.cell? ⟨H, 2, none⟩ = some (.int .i64 (m.g.S : Int)) ∧ w'.cell? ⟨H, 3, none⟩ = some (.int .i64 (m.g.K : Int)) ∧ w'.cell? ⟨H, 4, none⟩ = some (.int .i64 (m.g.M : Int)) ∧ w'.cell? ⟨H, 5, none⟩ = some (.slice (m.A 0) m.g.W (m.C 0)) ∧ w'.cell? ⟨H, 6, none⟩ = some (.slice (m.A 1) m.g.W (m.C 1))))) (by kernel_rfl) ?_
        change wpAnyH _ _ _ _ _ _ _ _ (World.drew _)
        refine wpAnyH_take (i := 0) (oi := ⟨some 41, .move (.tmp 7), _, _, _, none⟩) (v := .slice (some ⟨b, o, none⟩) L.length C) rfl (by kernel_rfl) (by kernel_rfl) (by kernel_rfl) (fun _ _ _ h => h) (Or.inl ⟨by rfl, fun w' hS => ?_⟩) HS9.out ?_
        · clear hS; go_simp
        simp only [Act.put, List.setIfInBounds_toArray, List.set_cons_zero, List.set_cons_succ]
        refine wpAnyH_take (i := 1) (oi := ⟨some 42, .move (.tmp 8), _, _, _, none⟩) (v := .int .i64 (i : Int)) rfl (by kernel_rfl) (by kernel_rfl) (by kernel_rfl) (fun _ _ _ h => h) (Or.inl ⟨by rfl, fun w' hS => ?_⟩) HS9.out ?_
        · clear hS; go_simp
        simp only [Act.put, List.setIfInBounds_toArray, List.set_cons_zero, List.set_cons_succ]
        refine wpAnyH_take (i := 2) (oi := ⟨some 43, .indexAddr 102 (.tmp 41) (.tmp 42), _, _, _, none⟩) (v := .pointer (some ⟨b, O, none⟩)) rfl (by kernel_rfl) (by kernel_rfl) (by kernel_rfl) (fun _ _ _ h => h) (Or.inl ⟨by rfl, fun w' hS => ?_⟩) HS9.out ?_
        · clear hS; have hO := HO.out; go_simp
        simp only [Act.put, List.setIfInBounds_toArray, List.set_cons_zero, List.set_cons_succ]
        refine wpAnyH_take (i := 3) (oi := ⟨some 44, .load 26 (.tmp 43), _, _, _, none⟩) (v := .agg (pcC x.p x.V)) rfl (by kernel_rfl) (by kernel_rfl) (by kernel_rfl) (fun _ _ _ h => h) (Or.inl ⟨by rfl, fun w' hS => ?_⟩) HS9.out ?_
        · obtain ⟨⟨q0, q1, q2, q3, q4, q5, q6⟩, _⟩ := hS; go_simp; rfl
        simp only [Act.put, List.setIfInBounds_toArray, List.set_cons_zero, List.set_cons_succ]
        refine wpAnyH_take (i := 4) (oi := ⟨some 45, .fieldAddr 94 (.tmp 3) 0, _, _, _, none⟩) (v := .pointer (some ⟨H, 0, none⟩)) rfl (by kernel_rfl) (by kernel_rfl) (by kernel_rfl) (fun _ _ _ h => h) (Or.inl ⟨by rfl, fun w' hS => ?_⟩) HS9.out ?_
        · clear hS; go_simp
        simp only [Act.put, List.setIfInBounds_toArray, List.set_cons_zero, List.set_cons_succ]
        refine wpAnyH_take (i := 5) (oi := ⟨some 46, .load 3 (.tmp 45), _, _, _, none⟩) (v := .int .i64 m.vol) rfl (by kernel_rfl) (by kernel_rfl) (by kernel_rfl) (fun _ _ _ h => h) (Or.inl ⟨by rfl, fun w' hS => ?_⟩) HS9.out ?_
        · obtain ⟨_, s0, s1, s2, s3, s4, s5, s6⟩ := hS; go_simp
        simp only [Act.put, List.setIfInBounds_toArray, List.set_cons_zero, List.set_cons_succ]
        refine wpAnyH_take (i := 6) (oi := ⟨some 47, .fieldAddr 94 (.tmp 3) 1, _, _, _, none⟩) (v := .pointer (some ⟨H, 1, none⟩)) rfl (by kernel_rfl) (by kernel_rfl) (by kernel_rfl) (fun _ _ _ h => h) (Or.inl ⟨by rfl, fun w' hS => ?_⟩) HS9.out ?_
        · clear hS; go_simp
        simp only [Act.put, List.setIfInBounds_toArray, List.set_cons_zero, List.set_cons_succ]
        refine wpAnyH_take (i := 7) (oi := ⟨some 48, .load 23 (.tmp 47), _, _, _, none⟩) (v := .agg (geC m.g.ge)) rfl (by kernel_rfl) (by kernel_rfl) (by kernel_rfl) (fun _ _ _ h => h) (Or.inl ⟨by rfl, fun w' hS => ?_⟩) HS9.out ?_
        · obtain ⟨_, s0, s1, s2, s3, s4, s5, s6⟩ := hS; go_simp; rfl
        simp only [Act.put, List.setIfInBounds_toArray, List.set_cons_zero, List.set_cons_succ]
        refine wpAnyH_take (i := 8) (oi := ⟨some 49, .move (.tmp 7), _, _, _, none⟩) (v := .slice (some ⟨b, o, none⟩) L.length C) rfl (by kernel_rfl) (by kernel_rfl) (by kernel_rfl) (fun _ _ _ h => h) (Or.inl ⟨by rfl, fun w' hS => ?_⟩) HS9.out ?_
        · clear hS; go_simp
        simp only [Act.put, List.setIfInBounds_toArray, List.set_cons_zero, List.set_cons_succ]
        refine wpAnyH_take (i := 9) (oi := ⟨some 50, .move (.tmp 8), _, _, _, none⟩) (v := .int .i64 (i : Int)) rfl (by kernel_rfl) (by kernel_rfl) (by kernel_rfl) (fun _ _ _ h => h) (Or.inl ⟨by rfl, fun w' hS => ?_⟩) HS9.out ?_
        · clear hS; go_simp
        simp only [Act.put, List.setIfInBounds_toArray, List.set_cons_zero, List.set_cons_succ]
        refine wpAnyH_take (i := 10) (oi := ⟨some 51, .indexAddr 102 (.tmp 49) (.tmp 50), _, _, _, none⟩) (v := .pointer (some ⟨b, O, none⟩)) rfl (by kernel_rfl) (by kernel_rfl) (by kernel_rfl) (fun _ _ _ h => h) (Or.inl ⟨by rfl, fun w' hS => ?_⟩) HS9.out ?_
        · clear hS; have hO := HO.out; go_simp
        simp only [Act.put, List.setIfInBounds_toArray, List.set_cons_zero, List.set_cons_succ]
        refine wpAnyH_take (i := 11) (oi := ⟨some 52, .load 26 (.tmp 51), _, _, _, none⟩) (v := .agg (pcC x.p x.V)) rfl (by kernel_rfl) (by kernel_rfl) (by kernel_rfl) (fun _ _ _ h => h) (Or.inl ⟨by rfl, fun w' hS => ?_⟩) HS9.out ?_
        · obtain ⟨⟨q0, q1, q2, q3, q4, q5, q6⟩, _⟩ := hS; go_simp; rfl
        simp only [Act.put, List.setIfInBounds_toArray, List.set_cons_zero, List.set_cons_succ]
        refine wpAnyH_ready (rs := [12]) (by kernel_rfl) (by simp) ?_
        refine AllReadyH.cons rfl (fun K hK => ?_) AllReadyH.nil
        go_simp
        refine (HSU.out w2.drew (Ch.refl (fun _ => False) w2).drew).mono ?_
        rintro e w3 ⟨rfl, hc3⟩
        have HC3 := Lib.hid ((Ch.refl (fun _ => False) w2).drew.trans hc3)
        have HS3 := Lib.hid (hold9_gr HS9.out HC3.out)
        obtain ⟨w4, h4⟩ := stLk (⟨x.p, x.V, sg⟩ : Lk) (HI2.out.gr HC3.out).hD HSV.out
        have H4 := Lib.hid h4
        clear hc3 h4
        dsimp only
        refine hK.out _ _ HS3.out (fun _ => ?_)
        clear hK K
        try simp only [Act.put, List.setIfInBounds_toArray, List.set_cons_zero, List.set_cons_succ]
        refine wpAnyH_take (i := 13) (oi := ⟨some 54, .build 100 #[(0, .tmp 44), (1, .tmp 53)], _, _, _, none⟩) (v := .agg (lkC ⟨x.p, x.V, sg⟩)) rfl (by kernel_rfl) (by kernel_rfl) (by kernel_rfl) (fun _ _ _ h => h) (Or.inl ⟨by rfl, fun w' hS => ?_⟩) HS3.out ?_
        · clear hS; exact exec_link x.p x.V (sg) rfl rfl rfl
        simp only [Act.put, List.setIfInBounds_toArray, List.set_cons_zero, List.set_cons_succ]
        refine wpAnyH_ready (rs := [14]) (by kernel_rfl) (by simp) ?_
        refine AllReadyH.cons rfl (fun K hK => ?_) AllReadyH.nil
        refine step_storing (o := ⟨none, .store 100 (.tmp 5) (.tmp 54), _, _, _, none⟩) w4 rfl 100 (.tmp 5) (.tmp 54) rfl (.agg (lkC ⟨x.p, x.V, sg⟩)) ⟨D, 0, none⟩ rfl rfl H4.out.st ?_
        have HS4 := Lib.hid (hold9_set HS3.out H4.out.ch HBD.out HHD.out)
        refine hK.out _ _ HS4.out (fun _ => ?_)
        clear hK K
        try simp only [Act.put, List.setIfInBounds_toArray, List.set_cons_zero, List.set_cons_succ]
        refine wpAnyH_done (by kernel_rfl) ?_ _
        --END9
        as_aux_lemma =>
          have HMZ := Lib.hid (show s < start + m.g.W by have h1 := HS.out; have h2 := HLT.out; omega)
          have HI4 := Lib.hid ((HI2.out.gr HC3.out).set H4.out.ch H4.out.cx)
          have HJ4 := Lib.hid (HJ.out.set (HJ.out.gr HJ2.out HC3.out) H4.out.ch)
          have HPN := Lib.hid (HP.out.next2 HLT.out (by rw [← HS.out]; exact HF.out) x.V HSG.out)
          have hlen : pre.length < m.g.W := by rw [HP.out.len]; exact HLT.out
          have hby := ((HBN.out.gr HC3.out).set H4.out.ch (HI2.out.gr HC3.out).hD (by decide)).low (w0 := wB) (by rw [HBz.out]; exact HDW.out)
          obtain ⟨fn, tmps, assign, body, hy, hR⟩ := HY.out pre (⟨x.p, x.V, sg⟩, 0) w4 HJ4.out ⟨blk_lt HI4.out.hD, HSV.out, Or.inl rfl, fun _ => ⟨⟨HCAN.out.may.ofn, HCAN.out.may.len, HSG.out⟩, hby.row, hby.byt⟩⟩ hlen
          have hy' : (Instr.yield l #[.agg #[.int .i64 x.p.seq, .int .i64 x.p.ep, .int .i64 x.p.fr, .int .i64 x.p.ch, .int .i64 x.p.ix, .int .i64 x.p.ofn, x.V, .int .i64 (sg)], .int .i64 0]).run Tryz.prog w4 = .ok (.round l fn tmps assign body) w4 := hy
          have d0 : w4.cell? ⟨D, 0, none⟩ = some (.int .i64 x.p.seq) := blk_cell H4.out.cx
          have d1 : w4.cell? ⟨D, 1, none⟩ = some (.int .i64 x.p.ep) := blk_cell H4.out.cx
          have d2 : w4.cell? ⟨D, 2, none⟩ = some (.int .i64 x.p.fr) := blk_cell H4.out.cx
          have d3 : w4.cell? ⟨D, 3, none⟩ = some (.int .i64 x.p.ch) := blk_cell H4.out.cx
          have d4 : w4.cell? ⟨D, 4, none⟩ = some (.int .i64 x.p.ix) := blk_cell H4.out.cx
          have d5 : w4.cell? ⟨D, 5, none⟩ = some (.int .i64 x.p.ofn) := blk_cell H4.out.cx
          have d6 : w4.cell? ⟨D, 6, none⟩ = some x.V := blk_cell H4.out.cx
          have d7 : w4.cell? ⟨D, 7, none⟩ = some (.int .i64 (sg)) := blk_cell H4.out.cx
          have n3 : wrap64 ((s : Int) + 1) = ((s + 1 : Nat) : Int) := by rw [IntWalk.wrap64_in _ ⟨by omega, by have := HS.out; have := HST.out; have := HLT.out; have := HM.out.ok.w2; omega⟩]; omega
          clear hy hby hlen
          gi_wp2
          refine hR.mono ?_
          rintro e W3 (⟨rfl, hJ3, hk3⟩ | ⟨rfl, hJx3⟩)
          · have HI5 := Lib.hid (HI4.out.kp hk3)
            have HJ5 := Lib.hid hJ3
            clear hJ3 hk3
            gi_wp2
            go_roundw
            case rel => exact ⟨k + 1, _, _, by rw [n3, HS.out, Nat.add_assoc], HLT.out, HI5, HJ5, HPN⟩
            case measure => exact meas_lt n3 HMZ.out
          · gi_wp2
            refine bodyPost_ret (results_none rfl _ _ _) rfl ?_
            exact ⟨⟨_, rfl⟩, .inr ⟨_, HPN.out.sp, hJx3⟩⟩
    · have i1 : ¬ (s : Int) < (E : Int) := by omega
      have hkw : k = m.g.W := by omega
      subst hkw
      gi_wp2
      go_end0
      exact ⟨⟨_, rfl⟩, .inl ⟨pre, HP.out.full, HJp.out⟩⟩
theorem links_given (n : Nat) (hn : 1 ≤ n) (m : Mi) (w0 wB w : World) (start : Nat) (chain : Int) (H Bs Bc X N : Nat) (hm : MiIs w0 m) (hst : start ≤ 4294967295) (hB : wB.heap.size = N + 1) (hch : Ch (fun _ => False) w0 w) (hH : w.heap[H]? = some (.cells (miC m) 94 (0, 0))) (hs : w.heap[Bs]? = some (.cells #[.int .i64 (start : Int)] 3 (0, 0))) (hc : w.heap[Bc]? = some (.cells #[.int .i64 chain] 3 (0, 0)))
    (hX : H ≠ X ∧ Bs ≠ X ∧ Bc ≠ X ∧ X < N) (hw : w.heap.size ≤ N) :
    SeqGiven Fence.wide n Tryz.prog 89 #[.pointer (some ⟨Bc, 0, none⟩), .pointer (some ⟨Bs, 0, none⟩), .pointer (some ⟨H, 0, none⟩)] encI (KpI w0.heap.size X N) (GvI m wB N) (SI m start chain) (SpI m start chain) m.g.W N w := by
  intro l J Jx W hN hb hJ hJx hY h0
  have k : Ch (fun _ => False) w W := Below.ch hb _
  exact links1_in n hn m w0 wB start chain H Bs Bc X N l hm hst hB J Jx hJ hJx hY W hN (hch.trans k) ((k.block _ (blk_lt hH) (fun f => f)).trans hH) ((k.block _ (blk_lt hs) (fun f => f)).trans hs) ((k.block _ (blk_lt hc) (fun f => f)).trans hc) hX h0
structure LiB (m : Mi) (w w' : World) (start : Nat) (chain : Int) (H Bs Bc : Nat) : Prop where
  hH : w'.heap[H]? = some (.cells (miC m) 94 (0, 0))
  hs : w'.heap[Bs]? = some (.cells #[.int .i64 (start : Int)] 3 (0, 0))
  hc : w'.heap[Bc]? = some (.cells #[.int .i64 chain] 3 (0, 0))
  lo : w.heap.size ≤ H ∧ w.heap.size ≤ Bs ∧ w.heap.size ≤ Bc
  ch : Ch (fun _ => False) w w'
theorem rlinks_any (m : Mi) (start : Nat) (chain : Int) (w : World) : Calls Tryz.prog 54 #[.agg (miC m), .int .i64 (start : Int), .int .i64 chain] w fun e w' => ∃ H Bs Bc, e = .returned (.func (.func 89) #[] #[.pointer (some ⟨Bc, 0, none⟩), .pointer (some ⟨Bs, 0, none⟩), .pointer (some ⟨H, 0, none⟩)]) ∧ LiB m w w' start chain H Bs Bc := by
  obtain ⟨w1, H, hR⟩ := boxR w (miC m) 94
  have k1 := (Ch.refl (fun _ => False) w1).alloc #[.int .i64 (start : Int)] 3
  have k2 := (Ch.refl (fun _ => False) (w1.alloc (.cells #[.int .i64 (start : Int)] 3))).alloc #[.int .i64 chain] 3
  have HFIN : Hid (LiB m w ((w1.alloc (.cells #[.int .i64 (start : Int)] 3)).alloc (.cells #[.int .i64 chain] 3)) start chain H w1.heap.size (w1.heap.size + 1)) := Lib.hid ⟨((k1.trans k2).block _ (blk_lt hR.cx) (fun f => f)).trans hR.cx, (k2.block _ (by simp) (fun f => f)).trans (heap_alloc_new _ _), by
      have := heap_alloc_new (w1.alloc (.cells #[.int .i64 (start : Int)] 3)) (.cells #[.int .i64 chain] 3)
      simpa using this, ⟨Nat.le_of_eq hR.sz, hR.ch.size, Nat.le_succ_of_le hR.ch.size⟩, (hR.ch.trans k1).trans k2⟩
  have HR := Lib.hid hR
  clear hR k1 k2
  go_enter Tryz.func54, Tryz.ntmps54
  go_wp2_with (first | ((with_reducible refine wpList_isOp (.box 94 (.tmp 0)) rfl ?_); refine wpList_boxing _ w1 rfl 94 (.tmp 0) rfl (miC m) H rfl (by exact HR.out.sz) (by exact HR.out.al) ?_))
  go_ret
  exact ⟨_, _, _, by simp, HFIN.out⟩
end Go.Proofs.YteleknojohnlbaaGreat
