/-
  slices.Clone of writes, sectors and ints, walked.
-/
import Derived.Test.YtjibfoplihaabaaMg14
import Derived.Test.YtjibfoplihaabaaMg10
import Derived.Lib.SliceRun
namespace Go.Proofs.Ytjibfoplihaabaa
open Go.RowKit
set_option linter.unusedVariables false
set_option maxRecDepth 100000

theorem empty_own (w : World) (e : TypeId) (size : Nat) : (w.alloc (.cells #[] e)).ownsRow w.heap.size e size (.slice (some ⟨w.heap.size, 0, none⟩) 0 0) 0 [] :=
  ⟨by simp, Or.inr ⟨w.heap.size, 0, #[], rfl, Nat.le_refl _, heap_alloc_new w _, Nat.le_refl _, Nat.zero_le _, by simp, by simp⟩⟩
theorem clone_run {w : World} {T e : TypeId} {i0 : TypeInfo} {z : Value} {size bytes n C : Nat} {ad : Addr} {xs : List Value} (hu : Try.prog.underlying T = some (.slice e)) (hi : Try.prog.info? e = some i0) (hz : i0.zero = some z) (hs : i0.size = size) (hb : i0.bytes = bytes) (hzs : z.cells.size = size) (h0 : 0 < size)
    (hl : xs.length = n * size) (hx : ∀ j u, xs[j]? = some u → w.cell? (ad.add j) = some u) (h1 : ∀ u ∈ xs, u.oneCell' = true) (hn : n ≤ 1048576) (hb2 : bytes ≤ 1024) :
    ∃ v' w', (Builtin.append_ #[T, T] T #[.slice (some ⟨w.heap.size, 0, none⟩) 0 0, .slice (some ad) n C]).run Try.prog (w.alloc (.cells #[] e)) = .ok v' w' ∧ w'.ownsRow w.heap.size e size v' n xs ∧ Ch (fun _ => False) w w' ∧ ∀ j, v'.ownBlock = some j → w.heap.size ≤ j := by
  have hbn : n * bytes ≤ 140737488355328 := by have := Nat.mul_le_mul hn hb2; omega
  obtain ⟨v', w', hr, h2, h3, _, h5⟩ := run_append_own_at (P := Try.prog) (w.alloc (.cells #[] e)) w.heap.size T T e i0 z size bytes hu hi hz hs hb hzs h0 _ 0 [] (empty_own w e size) ad n C xs hl
    (fun j u hu => ((Ch.refl (fun _ => False) w).alloc _ _).cell (hx j u hu) (fun f => f)) h1 (by unfold maxLen; omega) (by rw [Nat.zero_add]; exact hbn) (by simp)
  rw [Nat.zero_add, List.nil_append] at h2
  refine ⟨v', w', hr, h2, ?_, fun j hj => (own_at h2 hj).1⟩
  exact ((Ch.refl (fun _ => False) w).alloc _ _).grown h3 (fun j hj => Or.inr (by injection hj with hj; exact Nat.le_of_eq hj))
theorem wpList_appT {ops : Array Oper} {rest : List Oper} {o : Oper} {a : Act} {Q : Exit → Act → World → Prop} (w : World) (T : TypeId) (hgd : o.guard = none) (s x : Operand)
    (ho : o.op = .call { callee := .builtin .append, args := #[s, x], argTypes := #[T, T] }) (hty : o.type = T) (sv xv v' : Value) (w' : World) (hs : a.eval s = sv) (hx : a.eval x = xv)
    (hrun : (Builtin.append_ #[T, T] T #[sv, xv]).run Try.prog w = .ok v' w') (h : wpList Try.prog ops Q rest (a.put o.dst v') w') : wpList Try.prog ops Q (o :: rest) a w := by
  refine wpList_plain hgd fun _ hK => ?_
  unfold Oper.wp execOp
  simp only [ho, hty, resolve, invoke, builtin, Sem.run_bind, Sem.run_pure, Result.andThen_ok, List.map_toArray, List.map_cons, List.map_nil, hs, hx, hrun]
  exact hK _ _ h
theorem slice_none (T e : TypeId) (hu : Try.prog.underlying T = some (.slice e)) (n : Nat) (hs : (Try.prog.info? e).map (·.size) = some n) (w : World) : (Instr.buildSlice T 0 #[]).run Try.prog w = .ok (.slice (some ⟨w.heap.size, 0, none⟩) 0 0) (w.alloc (.cells #[] e)) := by
  cases hq : Try.prog.info? e with
  | none => rw [hq] at hs; cases hs
  | some i =>
    have e0 : Array.range 0 = #[] := rfl
    simp [Instr.buildSlice, run_underlying hu, sizeOf, typeInfo, hq, newRow, Instr.fill, e0]
theorem wpList_slicing0 {P : Program} {ops : Array Oper} {rest : List Oper} {o : Oper} {a : Act} {Q : Exit → Act → World → Prop} (w w' : World) (hgd : o.guard = none) (t : TypeId) (ho : o.op = .buildSlice t 0 #[]) (v : Value) (hr : (Instr.buildSlice t 0 #[]).run P w = .ok v w')
    (h : wpList P ops Q rest (a.put o.dst v) w') : wpList P ops Q (o :: rest) a w := by
  refine wpList_plain hgd fun K hK => ?_
  unfold Oper.wp execOp
  simp only [ho, Sem.run_bind, Sem.run_pure, Result.andThen_ok, hr, List.map_toArray, List.map_nil]
  exact hK _ _ h
/-- The answer of a clone. -/
def ClonePost (e : TypeId) (size n : Nat) (xs : List Value) (w : World) (en : Ending) (w' : World) : Prop := ∃ v, en = .returned v ∧ w'.ownsRow w.heap.size e size v n xs ∧ Ch (fun _ => False) w w'
theorem under_secs : Try.prog.underlying 76 = some (.slice 92) := underlying_sectors
set_option maxHeartbeats 400000 in
theorem cloneW_nil (n C : Nat) (w : World) : Calls Try.prog 38 #[.slice none n C] w fun e w' => e = .returned (.slice none 0 0) ∧ w = w' := by
  have q := Lib.run_eql_slice_nil w (P := Try.prog) 77 87 none n C 0 0 under_writes
  go_enter Try.func38, Try.ntmps38
  go_wp2
  go_ret
  exact ⟨rfl, rfl⟩
set_option maxHeartbeats 400000 in
set_option maxRecDepth 100000 in
theorem cloneW_some (ad : Addr) (n C : Nat) (xs : List Value) (w : World) (hl : xs.length = n * 257) (hx : ∀ j u, xs[j]? = some u → w.cell? (ad.add j) = some u) (h1 : ∀ u ∈ xs, u.oneCell' = true) (hn : n ≤ 1048576) : Calls Try.prog 38 #[.slice (some ad) n C] w (ClonePost 87 257 n xs w) := by
  obtain ⟨i0, hi, hz0, hz1, hz2⟩ := info_parts info_write
  obtain ⟨v', w', hr, h2, h3, _⟩ := clone_run (C := C) under_writes hi hz0 hz1 hz2 (wtC_arr _) (by omega) hl hx h1 hn (by omega)
  have hsl := slice_none 77 87 under_writes 257 (by rw [hi]; simp [hz1]) w
  obtain ⟨K, hK⟩ : ∃ K, K = w.heap.size := ⟨_, rfl⟩
  obtain ⟨wk, hwk⟩ : ∃ wk, wk = w.alloc (.cells #[] 87) := ⟨_, rfl⟩
  rw [← hK, ← hwk] at hr hsl
  have HR := Lib.hid hr
  have HSL := Lib.hid hsl
  have H2 := Lib.hid h2
  have H3 := Lib.hid h3
  have q := Lib.run_eql_slice_nil w (P := Try.prog) 77 87 (some ad) n C 0 0 under_writes
  clear hr hsl h2 h3 hK hwk hl hx h1 hi hz0 hz1 hz2
  go_enter Try.func38, Try.ntmps38
  go_wp2_with ((with_reducible refine wpList_same ?_); first
    | refine wpList_slicing0 _ wk rfl 77 rfl (.slice (some ⟨K, 0, none⟩) 0 0) (by exact HSL.out) ?_
    | refine wpList_appT _ 77 rfl (.tmp 5) (.tmp 6) rfl rfl (.slice (some ⟨K, 0, none⟩) 0 0) (.slice (some ad) n C) v' w' rfl rfl (by exact HR.out) ?_)
  go_ret
  exact ⟨_, rfl, H2.out, H3.out⟩
set_option maxHeartbeats 400000 in
theorem cloneS_nil (n C : Nat) (w : World) : Calls Try.prog 39 #[.slice none n C] w fun e w' => e = .returned (.slice none 0 0) ∧ w = w' := by
  have q := Lib.run_eql_slice_nil w (P := Try.prog) 76 92 none n C 0 0 under_secs
  go_enter Try.func39, Try.ntmps39
  go_wp2
  go_ret
  exact ⟨rfl, rfl⟩
set_option maxHeartbeats 400000 in
set_option maxRecDepth 100000 in
theorem cloneS_some (ad : Addr) (n C : Nat) (xs : List Value) (w : World) (hl : xs.length = n * 259) (hx : ∀ j u, xs[j]? = some u → w.cell? (ad.add j) = some u) (h1 : ∀ u ∈ xs, u.oneCell' = true) (hn : n ≤ 1048576) : Calls Try.prog 39 #[.slice (some ad) n C] w (ClonePost 92 259 n xs w) := by
  obtain ⟨i0, hi, hz0, hz1, hz2⟩ := info_parts info_sector
  obtain ⟨v', w', hr, h2, h3, _⟩ := clone_run (C := C) under_secs hi hz0 hz1 hz2 (show sec0.size = 259 by unfold sec0; simp [bytesL_len]) (by omega) hl hx h1 hn (by omega)
  have hsl := slice_none 76 92 under_secs 259 (by rw [hi]; simp [hz1]) w
  obtain ⟨K, hK⟩ : ∃ K, K = w.heap.size := ⟨_, rfl⟩
  obtain ⟨wk, hwk⟩ : ∃ wk, wk = w.alloc (.cells #[] 92) := ⟨_, rfl⟩
  rw [← hK, ← hwk] at hr hsl
  have HR := Lib.hid hr
  have HSL := Lib.hid hsl
  have H2 := Lib.hid h2
  have H3 := Lib.hid h3
  have q := Lib.run_eql_slice_nil w (P := Try.prog) 76 92 (some ad) n C 0 0 under_secs
  clear hr hsl h2 h3 hK hwk hl hx h1 hi hz0 hz1 hz2
  go_enter Try.func39, Try.ntmps39
  go_wp2_with ((with_reducible refine wpList_same ?_); first
    | refine wpList_slicing0 _ wk rfl 76 rfl (.slice (some ⟨K, 0, none⟩) 0 0) (by exact HSL.out) ?_
    | refine wpList_appT _ 76 rfl (.tmp 5) (.tmp 6) rfl rfl (.slice (some ⟨K, 0, none⟩) 0 0) (.slice (some ad) n C) v' w' rfl rfl (by exact HR.out) ?_)
  go_ret
  exact ⟨_, rfl, H2.out, H3.out⟩
set_option maxHeartbeats 400000 in
theorem cloneI_nil (n C : Nat) (w : World) : Calls Try.prog 40 #[.slice none n C] w fun e w' => e = .returned (.slice none 0 0) ∧ w = w' := by
  have q := Lib.run_eql_slice_nil w (P := Try.prog) 39 3 none n C 0 0 under_ints
  go_enter Try.func40, Try.ntmps40
  go_wp2
  go_ret
  exact ⟨rfl, rfl⟩
set_option maxHeartbeats 400000 in
set_option maxRecDepth 100000 in
theorem cloneI_some (ad : Addr) (n C : Nat) (xs : List Value) (w : World) (hl : xs.length = n * 1) (hx : ∀ j u, xs[j]? = some u → w.cell? (ad.add j) = some u) (h1 : ∀ u ∈ xs, u.oneCell' = true) (hn : n ≤ 1048576) : Calls Try.prog 40 #[.slice (some ad) n C] w (ClonePost 3 1 n xs w) := by
  obtain ⟨i0, hi, hz0, hz1, hz2⟩ := info_parts info_int
  obtain ⟨v', w', hr, h2, h3, _⟩ := clone_run (C := C) under_ints hi hz0 hz1 hz2 rfl (by omega) hl hx h1 hn (by omega)
  have hsl := slice_none 39 3 under_ints 1 (by rw [hi]; simp [hz1]) w
  obtain ⟨K, hK⟩ : ∃ K, K = w.heap.size := ⟨_, rfl⟩
  obtain ⟨wk, hwk⟩ : ∃ wk, wk = w.alloc (.cells #[] 3) := ⟨_, rfl⟩
  rw [← hK, ← hwk] at hr hsl
  have HR := Lib.hid hr
  have HSL := Lib.hid hsl
  have H2 := Lib.hid h2
  have H3 := Lib.hid h3
  have q := Lib.run_eql_slice_nil w (P := Try.prog) 39 3 (some ad) n C 0 0 under_ints
  clear hr hsl h2 h3 hK hwk hl hx h1 hi hz0 hz1 hz2
  go_enter Try.func40, Try.ntmps40
  go_wp2_with ((with_reducible refine wpList_same ?_); first
    | refine wpList_slicing0 _ wk rfl 39 rfl (.slice (some ⟨K, 0, none⟩) 0 0) (by exact HSL.out) ?_
    | refine wpList_appT _ 39 rfl (.tmp 5) (.tmp 6) rfl rfl (.slice (some ⟨K, 0, none⟩) 0 0) (.slice (some ad) n C) v' w' rfl rfl (by exact HR.out) ?_)
  go_ret
  exact ⟨_, rfl, H2.out, H3.out⟩
#print axioms cloneI_some
theorem own_miss {w : World} {base : Nat} {v : Value} {l : List Nat} (h : w.ownsRow base 3 1 v l.length (intsL l)) : MissIs w v l := by
  rcases h.2 with ⟨rfl, h0⟩ | ⟨g, cap, cur, rfl, _, hg, hcap, hm, hs, ht⟩
  · exact Or.inl ⟨rfl, List.eq_nil_of_length_eq_zero h0⟩
  · refine Or.inr ⟨g, 0, cap, cur, rfl, hcap, hg, by omega, by unfold maxLen at hm; omega, fun i x hx => ?_⟩
    have h1 : (cur.toList.take (l.length * 1))[i]? = (intsL l)[i]? := by rw [ht]
    have hil : i < l.length := (List.getElem?_eq_some_iff.1 hx).1
    rw [List.getElem?_take, if_pos (by omega), intsL_of hx] at h1
    rw [Nat.zero_add, ← h1, Array.getElem?_toList]
/-- A clone of what is misled. -/
theorem cloneM (v : Value) (l : List Nat) (w : World) (h : MissIs w v l) (hl : l.length ≤ 1048576) : Calls Try.prog 40 #[v] w fun e w' => ∃ v', e = .returned v' ∧ MissIs w' v' l ∧ Ch (fun _ => False) w w' ∧ ∀ j, v'.ownBlock = some j → w.heap.size ≤ j := by
  rcases h with ⟨rfl, rfl⟩ | ⟨b, o, cap, c, rfl, hcap, hb, hsz, hmx, hall⟩
  · refine (cloneI_nil 0 0 w).mono ?_
    rintro e w' ⟨rfl, rfl⟩
    exact ⟨_, rfl, Or.inl ⟨rfl, rfl⟩, Ch.refl _ _, fun j hj => (by cases hj)⟩
  · refine (cloneI_some ⟨b, o, none⟩ l.length cap (intsL l) w (by rw [intsL_len, Nat.mul_one]) (fun j u hu => by
      obtain ⟨x, hx, rfl⟩ := intsL_get hu
      rw [add_pl, blk_cell hb]
      exact hall j x hx) (fun u hu => by unfold intsL at hu; obtain ⟨x, _, rfl⟩ := List.mem_map.1 hu; rfl) hl).mono ?_
    rintro e w' ⟨v', rfl, h2, h3⟩
    exact ⟨v', rfl, own_miss h2, h3, fun j hj => (own_at h2 hj).1⟩
#print axioms cloneM
end Go.Proofs.Ytjibfoplihaabaa
