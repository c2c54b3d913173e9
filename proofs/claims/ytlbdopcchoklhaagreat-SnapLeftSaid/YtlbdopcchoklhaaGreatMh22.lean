/-
  What waits: a write behind the others; (*disk.Disk).Write, walked.
-/
import Derived.Test.YtlbdopcchoklhaaGreatMh21
import Derived.Great.BuildSlice
import Derived.Great.FillDense
import Derived.Deep.AppendLies
namespace Go.Proofs.YtlbdopcchoklhaaGreat
open Go.RowKit
set_option linter.unusedVariables false
set_option maxRecDepth 100000

/-! ### a write behind the others -/
theorem foot_n {p : Ph} {d d' : Dev} (e : d'.n = d.n) {i : Nat} : Foot p d' i ↔ Foot p d i := by unfold Foot; rw [e]
theorem info_write : (Tryz.prog.info? 95).map (fun i => (i.zero, i.size, i.bytes)) = some (some (.agg (wtC ⟨0, fun _ => 0⟩).toArray), 257, 264) := by kernel_rfl
theorem under_writes : Tryz.prog.underlying 90 = some (.slice 95) := by kernel_rfl
theorem wtC_arr (x : Wt) : (wtC x).toArray.size = 257 := by simp [wtC_len]
theorem zero_write (w : World) : (zeroValue 95).run Tryz.prog w = .ok (.agg (wtC ⟨0, fun _ => 0⟩).toArray) w := by
  obtain ⟨i0, hi, hz0, hz1, hz2⟩ := info_parts info_write
  simp [zeroValue, typeInfo, hi, hz0]
theorem app_wt {base : Nat} {w : World} {v : Value} {L : List Wt} {x : Wt} {ad : Addr} {C : Nat} (ho : w.ownsRow base 95 257 v L.length (wtsL L)) (hb : base ≤ w.heap.size) (hx : ∀ j u, (wtC x)[j]? = some u → w.cell? (ad.add j) = some u) (hl : L.length ≤ 1048576) :
    ∃ g cap w', (Builtin.append_ #[ 90, 90] 90 #[v, .slice (some ad) 1 C]).run Tryz.prog w = .ok (.slice (some ⟨g, 0, none⟩) (L.length + 1) cap) w' ∧ w'.ownsRow base 95 257 (.slice (some ⟨g, 0, none⟩) (L.length + 1) cap) (L ++ [x]).length (wtsL (L ++ [x])) ∧ w.grownBy w' v.ownBlock ∧ (v.ownBlock = some g ∨ g = w.heap.size) := by
  obtain ⟨i0, hi, hz0, hz1, hz2⟩ := info_parts info_write
  obtain ⟨g, cap, w', hr, h2, h3, h4, _⟩ := run_append_lies (P := Tryz.prog) w 90 90 base 95 i0 _ 257 264 under_writes hi hz0 hz1 hz2 (wtC_arr _) (by omega) v L.length (wtsL L) ho ad 1 C (wtC x) (by rw [wtC_len]) hx (wtC_one x) (by omega) (by unfold maxLen; omega) (by omega) hb _ rfl
  refine ⟨g, cap, w', hr, ?_, h3, h4⟩
  rw [wtsL_snoc, List.length_append, List.length_singleton]
  exact h2
theorem fill_one (cs old : Array Value) (n : Nat) (h : cs.size = n) (h2 : old.size = n) (hp : 0 < n) : Instr.fill (fun i => some (i * n, n)) old [(0, .agg cs)] = some cs := by
  have := Great.fill_whole hp [.agg cs] old (fun v hv => by rw [List.mem_singleton.1 hv]; exact h) (by simp; omega)
  simpa [Value.cells] using this
theorem slice_one (w : World) (x : Wt) : (Instr.buildSlice 90 1 #[(0, .agg (wtC x).toArray)]).run Tryz.prog w = .ok (.slice (some ⟨w.heap.size, 0, none⟩) 1 1) (w.alloc (.cells (wtC x).toArray 95)) := by
  obtain ⟨i0, hi, hz0, hz1, hz2⟩ := info_parts info_write
  refine run_buildSlice (P := Tryz.prog) w _ _ 1 _ _ i0 _ under_writes hi hz0 (by rw [hz1]; omega) (by rw [hz1]; omega) ?_
  rw [hz1]
  exact fill_one _ _ 257 (wtC_arr x) (by simp) (by omega)
theorem built_write (a : Int) (w : World) : (Instr.build 95 #[(0, .int .i64 a)]).run Tryz.prog w = .ok (.agg (Value.int .i64 a :: bytesL 256 (fun _ => 0)).toArray) w := run_build w _ _ _ (by kernel_rfl)
theorem wpList_building1 {P : Program} {ops : Array Oper} {rest : List Oper} {o : Oper} {a : Act} {Q : Exit → Act → World → Prop} (w : World) (hgd : o.guard = none) (t : TypeId) (i : Nat) (x : Operand) (ho : o.op = .build t #[(i, x)]) (u v : Value) (hx : a.eval x = u) (hr : (Instr.build t #[(i, u)]).run P w = .ok v w)
    (h : wpList P ops Q rest (a.put o.dst v) w) : wpList P ops Q (o :: rest) a w := by
  refine wpList_plain hgd fun K hK => ?_
  unfold Oper.wp execOp
  simp only [ho, hx, Sem.run_bind, Sem.run_pure, Result.andThen_ok, hr, List.map_toArray, List.map_cons, List.map_nil]
  exact hK _ _ h
theorem wpList_slicing1 {P : Program} {ops : Array Oper} {rest : List Oper} {o : Oper} {a : Act} {Q : Exit → Act → World → Prop} (w w' : World) (hgd : o.guard = none) (t : TypeId) (i : Nat) (n : Nat) (x : Operand) (ho : o.op = .buildSlice t n #[(i, x)]) (u v : Value) (hx : a.eval x = u) (hr : (Instr.buildSlice t n #[(i, u)]).run P w = .ok v w')
    (h : wpList P ops Q rest (a.put o.dst v) w') : wpList P ops Q (o :: rest) a w := by
  refine wpList_plain hgd fun K hK => ?_
  unfold Oper.wp execOp
  simp only [ho, hx, Sem.run_bind, Sem.run_pure, Result.andThen_ok, hr, List.map_toArray, List.map_cons, List.map_nil]
  exact hK _ _ h
theorem wpList_appW {ops : Array Oper} {rest : List Oper} {o : Oper} {a : Act} {Q : Exit → Act → World → Prop} (w : World) (hgd : o.guard = none) (s x : Operand)
    (ho : o.op = .call { callee := .builtin .append, args := #[s, x], argTypes := #[ 90, 90] }) (hty : o.type = 90) (sv xv v' : Value) (w' : World) (hs : a.eval s = sv) (hx : a.eval x = xv)
    (hrun : (Builtin.append_ #[ 90, 90] 90 #[sv, xv]).run Tryz.prog w = .ok v' w') (h : wpList Tryz.prog ops Q rest (a.put o.dst v') w') : wpList Tryz.prog ops Q (o :: rest) a w := by
  refine wpList_plain hgd fun _ hK => ?_
  unfold Oper.wp execOp
  simp only [ho, hty, resolve, invoke, builtin, Sem.run_bind, Sem.run_pure, Result.andThen_ok, List.map_toArray, List.map_cons, List.map_nil, hs, hx, hrun]
  exact hK _ _ h
theorem step_appW {ops : Array Oper} {o : Oper} {a : Act} {w : World} {K : Act → World → Prop} {Q : Exit → Act → World → Prop} {E : Prop} (hg : o.guard = none) (s x : Operand)
    (hop : o.op = Op.call { callee := Callee.builtin Builtin.append, args := #[s, x], argTypes := #[ 90, 90] }) (hty : o.type = 90) (sv xv v' : Value) (w' : World) (hs : a.eval s = sv) (hx : a.eval x = xv)
    (hrun : (Builtin.append_ #[ 90, 90] 90 #[sv, xv]).run Tryz.prog w = .ok v' w') (hK : K (a.put o.dst v') w') : if Region.wanted o (yielded ops a.tmps) = true then Oper.wp Tryz.prog o a w K Q else E := by
  have hw : Region.wanted o (yielded ops a.tmps) = true := by simp [Region.wanted, hg]
  rw [if_pos hw]
  unfold Oper.wp
  simp only [execOp, hop, hty, resolve, invoke, builtin, Sem.run_bind, Sem.run_pure, Result.andThen_ok, List.map_toArray, List.map_cons, List.map_nil, hs, hx, hrun]
  exact hK
theorem step_slicing1 {P : Program} {ops : Array Oper} {o : Oper} {a : Act} {w : World} {K : Act → World → Prop} {Q : Exit → Act → World → Prop} {E : Prop} (hg : o.guard = none) (t : TypeId) (i : Nat) (n : Nat) (x : Operand) (ho : o.op = .buildSlice t n #[(i, x)]) (u v : Value) (w' : World) (hx : a.eval x = u)
    (hr : (Instr.buildSlice t n #[(i, u)]).run P w = .ok v w') (hK : K (a.put o.dst v) w') : if Region.wanted o (yielded ops a.tmps) = true then Oper.wp P o a w K Q else E := by
  have hw : Region.wanted o (yielded ops a.tmps) = true := by simp [Region.wanted, hg]
  rw [if_pos hw]
  unfold Oper.wp
  simp only [execOp, ho, hx, Sem.run_bind, Sem.run_pure, Result.andThen_ok, hr, List.map_toArray, List.map_cons, List.map_nil]
  exact hK
section
variable {base : Nat} {w w' : World} {p : Ph} {d : Dev}
/-- What waits turns, and the device's own block with it. -/
theorem DevIs.turnW (h : DevIs base w p d) {V' : Value} {W' : List Wt} (k : Ch (fun i => i = p.B ∨ p.V.ownBlock = some i) w w') (hb : w'.heap[p.B]? = some (.cells (devC { p with V := V' } { d with W := W' }) 92 (0, 0)))
    (hw : w'.ownsRow base 95 257 V' W'.length (wtsL W')) (hok : ∀ x ∈ W', x.pl < d.n ∧ Bytes 256 x.z) : DevIs base w' { p with V := V' } { d with W := W' } :=
  ⟨hb, h.sec.of_block (k.block _ h.sec.lt (fun e => e.elim (fun e => h.BG e.symm) h.GV)), hw, fun a ha => (h.ms a ha).of (fun i hi => k.block i (h.foot (Or.inr (Or.inr (Or.inr ⟨a, ha, hi⟩)))).2 (fun e => e.elim (fun e => h.BM ha (e ▸ hi)) (fun e => h.VM ha e hi))),
    h.inj, h.lowB, h.lowG, h.lowM, h.byt, hok, h.mok, h.nn, h.lf⟩
theorem foot_turnW {V' : Value} {W' : List Wt} (n : Nat) (ho : ∀ i, V'.ownBlock = some i → p.V.ownBlock = some i ∨ n ≤ i) : ∀ i, Foot { p with V := V' } { d with W := W' } i → Foot p d i ∨ n ≤ i := by
  intro i hi
  rcases hi with hi | hi | hi | hi
  · exact Or.inl (Or.inl hi)
  · exact Or.inl (Or.inr (Or.inl hi))
  · rcases ho i hi with e | e
    · exact Or.inl (Or.inr (Or.inr (Or.inl e)))
    · exact Or.inr e
  · exact Or.inl (Or.inr (Or.inr (Or.inr hi)))
end
end Go.Proofs.YtlbdopcchoklhaaGreat
