/-
  The kinds of a tree's rows; slices.Clone of them.
-/
import Derived.Test.YtkpgaejmhddkdaaFlb
import Derived.Test.YtkpgaejmhddkdaaTreC
namespace Go.Proofs.Ytkpgaejmhddkdaa
open Go.RowKit
set_option linter.unusedVariables false
set_option maxRecDepth 100000
set_option linter.unusedSimpArgs false

def kdPr : Kf Kv := ⟨ 56, 57, 2, 24, .agg #[.string ByteArray.empty, .int .i64 0], fun x => [.string x.1, .int .i64 x.2]⟩
theorem kdPr_ok : kdPr.Ok := ⟨by kernel_rfl, by kernel_rfl, by kernel_rfl, by decide, by decide, by decide, fun _ => rfl, fun x u hu => by
  simp only [kdPr, List.mem_cons, List.not_mem_nil, or_false] at hu
  rcases hu with rfl | rfl <;> rfl⟩
theorem kdPr_z : ∀ u ∈ kdPr.z.cells, u.oneCell' = true := fun u hu => by
  simp [kdPr, Value.cells] at hu
  rcases hu with rfl | rfl <;> rfl
/-- A child: the block that it lies in. -/
def kdNd : Kf Nat := ⟨ 26, 58, 1, 8, .pointer none, fun b => [.pointer (some ⟨b, 0, none⟩)]⟩
theorem kdNd_ok : kdNd.Ok := ⟨by kernel_rfl, by kernel_rfl, by kernel_rfl, by decide, by decide, by decide, fun _ => rfl, fun x u hu => by
  simp only [kdNd, List.mem_cons, List.not_mem_nil, or_false] at hu
  rcases hu with rfl; rfl⟩
theorem kdNd_z : ∀ u ∈ kdNd.z.cells, u.oneCell' = true := fun u hu => by
  simp [kdNd, Value.cells] at hu
  rcases hu with rfl; rfl

section
variable {α : Type} {K : Kf α}
theorem fl_slice0 (hK : K.Ok) (w : World) : (Instr.buildSlice K.S 0 #[]).run Try.prog w = .ok (.slice (some ⟨w.heap.size, 0, none⟩) 0 0) (w.alloc (.cells #[] K.T)) := by
  obtain ⟨i0, hi, hz0, hz1, hz2⟩ := info_parts hK.inf
  have e0 : Array.range 0 = #[] := rfl
  simp [Instr.buildSlice, run_underlying hK.un, sizeOf, typeInfo, hi, newRow, Instr.fill, e0]
theorem fl_empty (w : World) : FlO K w (w.alloc (.cells #[] K.T)) (.slice (some ⟨w.heap.size, 0, none⟩) 0 0) [] :=
  ⟨by simp [flC], Or.inr ⟨w.heap.size, 0, #[], rfl, Nat.le_refl _, heap_alloc_new w _, Nat.le_refl _, Nat.zero_le _, by simp, by simp [flC]⟩⟩
theorem clone_flv (hK : K.Ok) {w : World} {A : Option Addr} {C : Nat} {L : List α} (h : FlV K w A C L) :
    ∃ v' w', (Builtin.append_ #[K.S, K.S] K.S #[.slice (some ⟨w.heap.size, 0, none⟩) 0 0, .slice A L.length C]).run Try.prog (w.alloc (.cells #[] K.T)) = .ok v' w' ∧ FlO K w w' v' L ∧ Ch (fun _ => False) w w' := by
  have k1 : Ch (fun _ => False) w (w.alloc (.cells #[] K.T)) := (Ch.refl _ w).alloc _ _
  obtain ⟨v', w', hr, h2, h3, h4⟩ := (fl_empty (K := K) w).appV hK K.S A C (h.gr k1) (by have := h.le; simp; omega) k1.size
  refine ⟨v', w', hr, h2, k1.new (h3.mono fun i _ e => ?_)⟩
  injection e with e
  exact Nat.le_of_eq e
theorem wpList_slicing0 {P : Program} {ops : Array Oper} {rest : List Oper} {o : Oper} {a : Act} {Q : Exit → Act → World → Prop} (w w' : World) (hgd : o.guard = none) (t : TypeId) (ho : o.op = .buildSlice t 0 #[]) (v : Value) (hr : (Instr.buildSlice t 0 #[]).run P w = .ok v w')
    (h : wpList P ops Q rest (a.put o.dst v) w') : wpList P ops Q (o :: rest) a w := by
  refine wpList_plain hgd fun K hK => ?_
  unfold Oper.wp execOp
  simp only [ho, Sem.run_bind, Sem.run_pure, Result.andThen_ok, hr, List.map_toArray, List.map_nil]
  exact hK _ _ h
theorem flV_nil {w : World} {C : Nat} {L : List α} (h : FlV K w none C L) : L = [] := by
  cases L with
  | nil => rfl
  | cons x L =>
    obtain ⟨_, _, e, _⟩ := h.at' (by simp)
    cases e
end
theorem copy_op {P : Program} {w : World} {ops : Array Oper} {rest : List Oper} {o : Oper} {a : Act} {Q : Exit → Act → World → Prop} (hgd : o.guard = none) (d s : Operand) (t t' : TypeId)
    (ho : o.op = .call { callee := .builtin .copy, args := #[d, s], argTypes := #[t, t'] }) (v u : Value) (hd : a.eval d = v) (hs : a.eval s = u) {v' : Value} {w' : World}
    (hr : (Builtin.copy_ #[t, t'] o.type #[v, u]).run P w = .ok v' w') (h : wpList P ops Q rest (a.put o.dst v') w') : wpList P ops Q (o :: rest) a w :=
  wpList_plain hgd fun _ hK => by
    unfold Oper.wp execOp
    simp only [ho, resolve, invoke, builtin, Sem.run_bind, Sem.run_pure, Result.andThen_ok, List.map_toArray, List.map_cons, List.map_nil, hd, hs, hr]
    exact hK _ _ h
theorem clear_op {P : Program} {w : World} {ops : Array Oper} {rest : List Oper} {o : Oper} {a : Act} {Q : Exit → Act → World → Prop} (hgd : o.guard = none) (s : Operand) (t : TypeId)
    (ho : o.op = .call { callee := .builtin .clear, args := #[s], argTypes := #[t] }) (u : Value) (hs : a.eval s = u) {v' : Value} {w' : World}
    (hr : (Builtin.clear_ #[t] o.type #[u]).run P w = .ok v' w') (h : wpList P ops Q rest (a.put o.dst v') w') : wpList P ops Q (o :: rest) a w :=
  wpList_plain hgd fun _ hK => by
    unfold Oper.wp execOp
    simp only [ho, resolve, invoke, builtin, Sem.run_bind, Sem.run_pure, Result.andThen_ok, List.map_toArray, List.map_cons, List.map_nil, hs, hr]
    exact hK _ _ h
theorem step_copy {P : Program} {ops : Array Oper} {o : Oper} {a : Act} {w : World} {K : Act → World → Prop} {Q : Exit → Act → World → Prop} {E : Prop}
    (hg : o.guard = none) (d x : Operand) (dT sT : TypeId) (hop : o.op = Op.call { callee := Callee.builtin Builtin.copy, args := #[d, x], argTypes := #[dT, sT] })
    (v u : Value) (hd : a.eval d = v) (hx : a.eval x = u) {v' : Value} {w' : World} (hr : (Builtin.copy_ #[dT, sT] o.type #[v, u]).run P w = .ok v' w') (hK : K (a.put o.dst v') w') :
    if Region.wanted o (yielded ops a.tmps) = true then Oper.wp P o a w K Q else E := by
  have hw : Region.wanted o (yielded ops a.tmps) = true := by simp [Region.wanted, hg]
  rw [if_pos hw]
  unfold Oper.wp
  simp [execOp, hop, resolve, invoke, builtin, hd, hx, hr, Result.andThen]
  exact hK
theorem step_app {P : Program} {ops : Array Oper} {o : Oper} {a : Act} {w : World} {K : Act → World → Prop} {Q : Exit → Act → World → Prop} {E : Prop}
    (hg : o.guard = none) (d x : Operand) (dT sT : TypeId) (hop : o.op = Op.call { callee := Callee.builtin Builtin.append, args := #[d, x], argTypes := #[dT, sT] })
    (v u : Value) (hd : a.eval d = v) (hx : a.eval x = u) {v' : Value} {w' : World} (hr : (Builtin.append_ #[dT, sT] o.type #[v, u]).run P w = .ok v' w') (hK : K (a.put o.dst v') w') :
    if Region.wanted o (yielded ops a.tmps) = true then Oper.wp P o a w K Q else E := by
  have hw : Region.wanted o (yielded ops a.tmps) = true := by simp [Region.wanted, hg]
  rw [if_pos hw]
  unfold Oper.wp
  simp [execOp, hop, resolve, invoke, builtin, hd, hx, hr, Result.andThen]
  exact hK
/-- The answer of what makes a row. -/
def RowP {α : Type} (K : Kf α) (w : World) (L : List α) (e : Ending) (w' : World) : Prop := ∃ v, e = .returned v ∧ FlO K w w' v L ∧ Ch (fun _ => False) w w'
set_option maxHeartbeats 400000 in
set_option maxRecDepth 100000 in
theorem clonePr_any (A : Option Addr) (C : Nat) (L : List Kv) (w : World) (h : FlV kdPr w A C L) : Calls Try.prog 43 #[.slice A L.length C] w (RowP kdPr w L) := by
  have q := Lib.run_eql_slice_nil w (P := Try.prog) 57 56 A L.length C 0 0 kdPr_ok.un
  cases A with
  | none =>
    have hL := flV_nil h
    subst hL
    have q := Lib.run_eql_slice_nil w (P := Try.prog) 57 56 none 0 C 0 0 kdPr_ok.un
    clear h
    go_enter Try.func43, Try.ntmps43
    go_wp2
    go_ret
    exact ⟨_, rfl, FlO.start kdPr w w, Ch.refl _ _⟩
  | some ad =>
    obtain ⟨v', w', hr, h2, h3⟩ := clone_flv kdPr_ok h
    have hsl := fl_slice0 kdPr_ok w
    obtain ⟨n, hn⟩ : ∃ n, n = L.length := ⟨_, rfl⟩
    obtain ⟨K, hK⟩ : ∃ K, K = w.heap.size := ⟨_, rfl⟩
    obtain ⟨wk, hwk⟩ : ∃ wk, wk = w.alloc (.cells #[] kdPr.T) := ⟨_, rfl⟩
    rw [← hK, ← hwk] at hr hsl
    rw [← hn] at hr q ⊢
    have HR := Lib.hid hr
    have HSL := Lib.hid hsl
    have HF : Hid (RowP kdPr w L (.returned v') w') := Lib.hid ⟨v', rfl, h2, h3⟩
    clear hr hsl h2 h3 hK hwk hn h
    go_enter Try.func43, Try.ntmps43
    go_wp2_with ((with_reducible refine wpList_same ?_); first
      | refine wpList_slicing0 _ wk rfl 57 rfl (.slice (some ⟨K, 0, none⟩) 0 0) (by exact HSL.out) ?_
      | refine wpList_appF 57 _ rfl (.tmp 5) (.tmp 6) rfl rfl (.slice (some ⟨K, 0, none⟩) 0 0) (.slice (some ad) n C) v' w' rfl rfl (by exact HR.out) ?_)
    go_ret
    exact HF.out
set_option maxHeartbeats 400000 in
set_option maxRecDepth 100000 in
theorem cloneNd_any (A : Option Addr) (C : Nat) (L : List Nat) (w : World) (h : FlV kdNd w A C L) : Calls Try.prog 44 #[.slice A L.length C] w (RowP kdNd w L) := by
  have q := Lib.run_eql_slice_nil w (P := Try.prog) 58 26 A L.length C 0 0 kdNd_ok.un
  cases A with
  | none =>
    have hL := flV_nil h
    subst hL
    have q := Lib.run_eql_slice_nil w (P := Try.prog) 58 26 none 0 C 0 0 kdNd_ok.un
    clear h
    go_enter Try.func44, Try.ntmps44
    go_wp2
    go_ret
    exact ⟨_, rfl, FlO.start kdNd w w, Ch.refl _ _⟩
  | some ad =>
    obtain ⟨v', w', hr, h2, h3⟩ := clone_flv kdNd_ok h
    have hsl := fl_slice0 kdNd_ok w
    obtain ⟨n, hn⟩ : ∃ n, n = L.length := ⟨_, rfl⟩
    obtain ⟨K, hK⟩ : ∃ K, K = w.heap.size := ⟨_, rfl⟩
    obtain ⟨wk, hwk⟩ : ∃ wk, wk = w.alloc (.cells #[] kdNd.T) := ⟨_, rfl⟩
    rw [← hK, ← hwk] at hr hsl
    rw [← hn] at hr q ⊢
    have HR := Lib.hid hr
    have HSL := Lib.hid hsl
    have HF : Hid (RowP kdNd w L (.returned v') w') := Lib.hid ⟨v', rfl, h2, h3⟩
    clear hr hsl h2 h3 hK hwk hn h
    go_enter Try.func44, Try.ntmps44
    go_wp2_with ((with_reducible refine wpList_same ?_); first
      | refine wpList_slicing0 _ wk rfl 58 rfl (.slice (some ⟨K, 0, none⟩) 0 0) (by exact HSL.out) ?_
      | refine wpList_appF 58 _ rfl (.tmp 5) (.tmp 6) rfl rfl (.slice (some ⟨K, 0, none⟩) 0 0) (.slice (some ad) n C) v' w' rfl rfl (by exact HR.out) ?_)
    go_ret
    exact HF.out
#print axioms cloneNd_any
end Go.Proofs.Ytkpgaejmhddkdaa
