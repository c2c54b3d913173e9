/-
  The document's own device (quartermasterref06), walked: New.
-/
import Derived.Test.YtjibfoplihaabaaMg33
namespace Go.Proofs.Ytjibfoplihaabaa
open Go.RowKit
set_option linter.unusedVariables false
set_option maxRecDepth 100000

/-! ### a row behind the others -/
theorem info_rows : (Try.prog.info? /-t-/47).map (fun i => (i.zero, i.size, i.bytes)) = some (some (.slice none 0 0), 1, 24) := by kernel_rfl
theorem under_rows : Try.prog.underlying /-t-/62 = some (.slice /-t-/47) := by kernel_rfl
def rowsL (k : Nat) (s : Nat → Value) : List Value := (List.range k).map s
theorem rowsL_len (k : Nat) (s : Nat → Value) : (rowsL k s).length = k := by unfold rowsL; simp
theorem rowsL_get {k c : Nat} {s : Nat → Value} (h : c < k) : (rowsL k s)[c]? = some (s c) := by unfold rowsL; simp [h]
theorem rowsL_snoc (k : Nat) (s : Nat → Value) (v : Value) : rowsL k s ++ [v] = rowsL (k + 1) (up s k v) := by
  unfold rowsL
  rw [List.range_succ, List.map_append]
  congr 1
  · refine List.map_congr_left fun c hc => ?_
    rw [up_other _ _ (by have := List.mem_range.1 hc; omega)]
  · simp [up_same]
/-- Between two rounds. -/
structure NewSt (w wr : World) (n k B L P Q : Nat) (v : Value) (s : Nat → Value) : Prop where
  blk : wr.heap[B]? = some (.cells #[v, .slice (some ⟨L, 0, none⟩) n n, .slice none 0 0, .slice (some ⟨P, 0, none⟩) n n, .slice (some ⟨Q, 0, none⟩) n n, .bool false, .bool false, .int .i64 0, .int .i64 0] 67 (0, 0))
  own : wr.ownsRow w.heap.size /-t-/47 1 v k (rowsL k s)
  rows : ∀ a, a < k → BRow wr (s a) (fun _ => 0) ∧ ∀ i, (s a).ownBlock = some i → w.heap.size ≤ i
  los : SecsIs wr L /-t-/4 n (fun _ => .bool false)
  drp : SecsIs wr P /-t-/3 n (fun _ => .int .i64 0)
  mis : SecsIs wr Q 39 n (fun _ => .slice none 0 0)
  lo : w.heap.size ≤ B ∧ w.heap.size ≤ L ∧ w.heap.size ≤ P ∧ w.heap.size ≤ Q
  ch : Ch (fun _ => False) w wr
section
variable {w wr w' : World} {n k B L P Q : Nat} {v : Value} {s : Nat → Value}
theorem NewSt.gr (h : NewSt w wr n k B L P Q v s) (c : Ch (fun _ => False) wr w') : NewSt w w' n k B L P Q v s := by
  have e : ∀ i, i < wr.heap.size → w'.heap[i]? = wr.heap[i]? := fun i hi => c.block i hi (fun f => f)
  exact ⟨(e _ (blk_lt h.blk)).trans h.blk, own_of h.own (fun i hi => e i (blk_lt (own_at h.own hi).2.choose_spec)), fun a ha => ⟨(h.rows a ha).1.of (fun i hi => by
    obtain ⟨c, hc⟩ := (h.rows a ha).1.at hi
    exact e i (blk_lt hc)), (h.rows a ha).2⟩, h.los.of_block (e _ h.los.lt), h.drp.of_block (e _ h.drp.lt), h.mis.of_block (e _ h.mis.lt), h.lo, h.ch.trans c⟩
theorem NewSt.next (h : NewSt w wr n k B L P Q v s) (hk : k ≤ 4096) :
    ∃ g cap w2, (Builtin.append_ #[ /-t-/62, /-t-/62] /-t-/62 #[v, .slice (some ⟨wr.heap.size + 1, 0, none⟩) 1 1]).run Try.prog ((wr.alloc (.cells (madeCells #[.int .u8 0] 256) /-t-/5)).alloc (.cells #[.slice (some ⟨wr.heap.size, 0, none⟩) 256 256] /-t-/47)) = .ok (.slice (some ⟨g, 0, none⟩) (k + 1) cap) w2
      ∧ NewSt w (w2.setCell ⟨B, 0, none⟩ (.slice (some ⟨g, 0, none⟩) (k + 1) cap)) n (k + 1) B L P Q (.slice (some ⟨g, 0, none⟩) (k + 1) cap) (up s k (.slice (some ⟨wr.heap.size, 0, none⟩) 256 256))
      ∧ w2.cell? ⟨B, 0, none⟩ = some v ∧ w2.frozen? ⟨B, 0, none⟩ = false := by
  have c1 : Ch (fun _ => False) wr (wr.alloc (.cells (madeCells #[.int .u8 0] 256) /-t-/5)) := (Ch.refl _ wr).alloc _ _
  have c2 : Ch (fun _ => False) (wr.alloc (.cells (madeCells #[.int .u8 0] 256) /-t-/5)) ((wr.alloc (.cells (madeCells #[.int .u8 0] 256) /-t-/5)).alloc (.cells #[.slice (some ⟨wr.heap.size, 0, none⟩) 256 256] /-t-/47)) := (Ch.refl _ _).alloc _ _
  have h2 := (h.gr c1).gr c2
  have hrow : BRow ((wr.alloc (.cells (madeCells #[.int .u8 0] 256) /-t-/5)).alloc (.cells #[.slice (some ⟨wr.heap.size, 0, none⟩) 256 256] /-t-/47)) (.slice (some ⟨wr.heap.size, 0, none⟩) 256 256) (fun _ => 0) := (BRow.rowIs (z := fun _ => 0) (World.rowIs_made wr (.int .u8 0) 256 /-t-/5) (fun _ _ => (by decide : 0 < 256))).of (fun i hi => by
    injection hi with hi
    subst hi
    exact c2.block _ (by simp) (fun f => f))
  have hsz : (wr.alloc (.cells (madeCells #[.int .u8 0] 256) /-t-/5)).heap.size = wr.heap.size + 1 := by simp
  have hat : ((wr.alloc (.cells (madeCells #[.int .u8 0] 256) /-t-/5)).alloc (.cells #[.slice (some ⟨wr.heap.size, 0, none⟩) 256 256] /-t-/47)).cell? ⟨wr.heap.size + 1, 0, none⟩ = some (.slice (some ⟨wr.heap.size, 0, none⟩) 256 256) := by rw [← hsz, alloc_cell]; rfl
  obtain ⟨i0, hi, hz0, hz1, hz2⟩ := info_parts info_rows
  obtain ⟨g, cap, w2, hr, ho, hg, hv, _⟩ := run_append_lies (P := Try.prog) ((wr.alloc (.cells (madeCells #[.int .u8 0] 256) /-t-/5)).alloc (.cells #[.slice (some ⟨wr.heap.size, 0, none⟩) 256 256] /-t-/47)) /-t-/62 /-t-/62 w.heap.size /-t-/47 i0 _ 1 24 under_rows hi hz0 hz1 hz2 rfl (by omega) v k (rowsL k s) h2.own ⟨wr.heap.size + 1, 0, none⟩ 1 1 [.slice (some ⟨wr.heap.size, 0, none⟩) 256 256] rfl (fun j u hu => by
    match j, hu with
    | 0, hu => simp at hu; rw [add_pl, Nat.add_zero, hat, hu]
    | j + 1, hu => simp at hu) (fun u hu => by rw [List.mem_singleton.1 hu]; rfl) (by omega) (by unfold maxLen; omega) (by omega) (h2.ch.size) _ rfl
  rw [rowsL_snoc] at ho
  have c3 : Ch (fun i => v.ownBlock = some i) ((wr.alloc (.cells (madeCells #[.int .u8 0] 256) /-t-/5)).alloc (.cells #[.slice (some ⟨wr.heap.size, 0, none⟩) 256 256] /-t-/47)) w2 := (Ch.refl _ _).grown hg (fun i hi => Or.inl hi)
  have vB : v.ownBlock ≠ some B := fun e => by obtain ⟨_, c, hc⟩ := own_at h2.own e; exact cells_ne h2.blk hc (by decide) rfl
  have kk : ∀ i, i < ((wr.alloc (.cells (madeCells #[.int .u8 0] 256) /-t-/5)).alloc (.cells #[.slice (some ⟨wr.heap.size, 0, none⟩) 256 256] /-t-/47)).heap.size → i ≠ B → v.ownBlock ≠ some i → (w2.setCell ⟨B, 0, none⟩ (.slice (some ⟨g, 0, none⟩) (k + 1) cap)).heap[i]? = ((wr.alloc (.cells (madeCells #[.int .u8 0] 256) /-t-/5)).alloc (.cells #[.slice (some ⟨wr.heap.size, 0, none⟩) 256 256] /-t-/47)).heap[i]? := fun i hi h1 h2 => (Below.heap_setCell w2 _ _ i h1).trans (c3.block i hi h2)
  have offV : ∀ {i : Nat} {c : Array Value} {t : TypeId}, ((wr.alloc (.cells (madeCells #[.int .u8 0] 256) /-t-/5)).alloc (.cells #[.slice (some ⟨wr.heap.size, 0, none⟩) 256 256] /-t-/47)).heap[i]? = some (.cells c t (0, 0)) → t ≠ /-t-/47 → v.ownBlock ≠ some i := fun {i c t} hc ht e => by obtain ⟨_, c2, hc2⟩ := own_at h2.own e; exact cells_ne hc hc2 ht rfl
  have offB : ∀ {i : Nat} {c : Array Value} {t : TypeId}, ((wr.alloc (.cells (madeCells #[.int .u8 0] 256) /-t-/5)).alloc (.cells #[.slice (some ⟨wr.heap.size, 0, none⟩) 256 256] /-t-/47)).heap[i]? = some (.cells c t (0, 0)) → t ≠ 67 → i ≠ B := fun {i c t} hc ht => cells_ne hc h2.blk ht
  have stay : ∀ {i : Nat} {c : Array Value} {t : TypeId}, ((wr.alloc (.cells (madeCells #[.int .u8 0] 256) /-t-/5)).alloc (.cells #[.slice (some ⟨wr.heap.size, 0, none⟩) 256 256] /-t-/47)).heap[i]? = some (.cells c t (0, 0)) → t ≠ /-t-/47 → t ≠ 67 → (w2.setCell ⟨B, 0, none⟩ (.slice (some ⟨g, 0, none⟩) (k + 1) cap)).heap[i]? = ((wr.alloc (.cells (madeCells #[.int .u8 0] 256) /-t-/5)).alloc (.cells #[.slice (some ⟨wr.heap.size, 0, none⟩) 256 256] /-t-/47)).heap[i]? := fun {i c t} hc h1 h2 => kk i (blk_lt hc) (offB hc h2) (offV hc h1)
  have eB : w2.heap[B]? = _ := (c3.block B (blk_lt h2.blk) vB).trans h2.blk
  have gB : g ≠ B := fun e => by
    obtain ⟨_, c, hc⟩ := own_at ho (i := g) rfl
    exact cells_ne (e ▸ hc) eB (by decide) rfl
  have stayR : ∀ {u : Value}, BRow ((wr.alloc (.cells (madeCells #[.int .u8 0] 256) /-t-/5)).alloc (.cells #[.slice (some ⟨wr.heap.size, 0, none⟩) 256 256] /-t-/47)) u (fun _ => 0) → BRow (w2.setCell ⟨B, 0, none⟩ (.slice (some ⟨g, 0, none⟩) (k + 1) cap)) u (fun _ => 0) := fun {u} hu => hu.of (fun i hi => by
    obtain ⟨c, hc⟩ := hu.at hi
    exact stay hc (by decide) (by decide))
  refine ⟨g, cap, w2, hr, ⟨?_, ?_, ?_, ?_, ?_, ?_, h.lo, ?_⟩, blk_cell eB, blk_frozen eB⟩
  · exact (blk_set eB _).trans rfl
  · exact own_of ho (fun i hi => by
      have e : g = i := by injection hi
      subst e
      exact Below.heap_setCell w2 _ _ g gB)
  · intro a ha
    by_cases e : a = k
    · rw [e, up_same]
      refine ⟨stayR hrow, fun i hi => ?_⟩
      injection hi with hi
      subst hi
      exact h.ch.size
    · rw [up_other _ _ e]
      exact ⟨stayR (h2.rows a (by omega)).1, (h2.rows a (by omega)).2⟩
  · obtain ⟨c, hc, _⟩ := id h2.los
    exact h2.los.of_block (stay hc (by decide) (by decide))
  · obtain ⟨c, hc, _⟩ := id h2.drp
    exact h2.drp.of_block (stay hc (by decide) (by decide))
  · obtain ⟨c, hc, _⟩ := id h2.mis
    exact h2.mis.of_block (stay hc (by decide) (by decide))
  · have e1 : Ch (fun i => v.ownBlock = some i) wr w2 := ((c1.trans c2).mono fun _ _ f => f.elim).trans c3
    exact h.ch.new ((e1.mono fun i _ hi => (own_at h.own hi).1).setCell (p := ⟨B, 0, none⟩) (Or.inl h.lo.1) _)
/-- The end. -/
theorem NewSt.done (h : NewSt w wr n n B L P Q v s) (hn : 1 ≤ n ∧ n ≤ 4096) {base : Nat} (hb : base ≤ w.heap.size) : ∃ q, q.B = B ∧ RefIs base (fun i => w.heap.size ≤ i ∧ i < wr.heap.size) wr q (dev0 n) := by
  rcases h.own.2 with ⟨_, h0⟩ | ⟨g, cap, cur, rfl, hgb, hg, hcap, hmx, hsz, htk⟩
  · omega
  have hsec : SecsIs wr g /-t-/47 n s := ⟨cur, hg, by omega, fun i hi => by
    have e := congrArg (fun l : List Value => l[i]?) htk
    simp only [Nat.mul_one] at e
    rw [List.getElem?_take, if_pos hi, rowsL_get hi, Array.getElem?_toList] at e
    exact e⟩
  refine ⟨⟨B, g, L, P, Q, cap, n, n, n, .slice none 0 0, s, [], fun _ => .slice none 0 0, 0⟩, rfl, ?_⟩
  refine ⟨h.blk, hsec, h.los, h.drp, h.mis, World.ownsRow_nil _ _ _ _, rfl, fun a ha => (h.rows a ha).1, fun y hy => (by cases hy), fun a _ => Or.inl ⟨rfl, rfl⟩, fun a _ e => (by cases e), ⟨h.lo.1, blk_lt h.blk⟩, ⟨hgb, blk_lt hg⟩, ⟨h.lo.2.1, h.los.lt⟩, ⟨h.lo.2.2.1, h.drp.lt⟩, ⟨h.lo.2.2.2, h.mis.lt⟩, fun i hi => (by cases hi), fun a ha i hi => ?_, fun y hy => (by cases hy), fun a _ i hi => (by cases hi), fun x hx => (by cases hx), fun a _ x hx => (by cases hx), hn, ⟨(by decide : (-9223372036854775808 : Int) ≤ 0), (by decide : (0 : Int) ≤ 9223372036854775807)⟩, fun e => (by cases e), fun i hi => Nat.le_trans hb hi.1, fun i hi => hi.2⟩
  obtain ⟨c, hc⟩ := (h.rows a ha).1.at hi
  exact ⟨(h.rows a ha).2 i hi, blk_lt hc⟩
end
#print axioms NewSt.next
#print axioms NewSt.done

/-! ### New -/
theorem makeL (n : Nat) (hn : n ≤ 4096) (w : World) : (Instr.makeSlice /-t-/63 (.int .i64 (n : Int)) (.int .i64 (n : Int))).run Try.prog w = .ok (.slice (some ⟨w.heap.size, 0, none⟩) n n) (w.alloc (.cells (madeCells #[.bool false] n) /-t-/4)) := by
  obtain ⟨i0, hi, hz0, hz1, hz2⟩ := info_parts (show (Try.prog.info? /-t-/4).map (fun i => (i.zero, i.size, i.bytes)) = some (some (.bool false), 1, 1) by kernel_rfl)
  have := run_make (P := Try.prog) w /-t-/63 /-t-/4 i0 (.bool false) (show Try.prog.underlying /-t-/63 = some (.slice /-t-/4) by kernel_rfl) hi hz0 .i64 .i64 (n : Int) (n : Int) (by omega) (by omega) (by rw [hz2]; omega) (by omega)
  rw [hz1, Int.toNat_natCast, Nat.mul_one] at this
  exact this
theorem makeI (n : Nat) (hn : n ≤ 4096) (w : World) : (Instr.makeSlice 39 (.int .i64 (n : Int)) (.int .i64 (n : Int))).run Try.prog w = .ok (.slice (some ⟨w.heap.size, 0, none⟩) n n) (w.alloc (.cells (madeCells #[.int .i64 0] n) /-t-/3)) := by
  obtain ⟨i0, hi, hz0, hz1, hz2⟩ := info_parts info_int
  have := run_make (P := Try.prog) w 39 /-t-/3 i0 (.int .i64 0) under_ints hi hz0 .i64 .i64 (n : Int) (n : Int) (by omega) (by omega) (by rw [hz2]; omega) (by omega)
  rw [hz1, Int.toNat_natCast, Nat.mul_one] at this
  exact this
theorem makeQ (n : Nat) (hn : n ≤ 4096) (w : World) : (Instr.makeSlice 65 (.int .i64 (n : Int)) (.int .i64 (n : Int))).run Try.prog w = .ok (.slice (some ⟨w.heap.size, 0, none⟩) n n) (w.alloc (.cells (madeCells #[.slice none 0 0] n) 39)) := by
  obtain ⟨i0, hi, hz0, hz1, hz2⟩ := info_parts (show (Try.prog.info? 39).map (fun i => (i.zero, i.size, i.bytes)) = some (some (Value.slice none 0 0), 1, 24) by kernel_rfl)
  have := run_make (P := Try.prog) w 65 39 i0 (.slice none 0 0) (show Try.prog.underlying 65 = some (.slice 39) by kernel_rfl) hi hz0 .i64 .i64 (n : Int) (n : Int) (by omega) (by omega) (by rw [hz2]; omega) (by omega)
  rw [hz1, Int.toNat_natCast, Nat.mul_one] at this
  exact this
set_option maxHeartbeats 400000 in
theorem rnew_bad (n : Int) (w : World) (h : n < 1 ∨ 4096 < n) : Calls Try.prog 23 #[.int .i64 n] w fun e w' => e = .returned (.tuple #[.pointer none, .int .i64 1]) ∧ w = w' := by
  by_cases h1 : n < 1
  · clear h
    go_enter Try.func23, Try.ntmps23
    go_wp2
    go_ret2
    exact ⟨rfl, rfl⟩
  · have h2 : 4096 < n := by omega
    clear h
    go_enter Try.func23, Try.ntmps23
    go_wp2
    go_ret2
    exact ⟨rfl, rfl⟩
def RNew (n : Nat) (w : World) (e : Ending) (w' : World) : Prop := ∃ B, e = .returned (.tuple #[.pointer (some ⟨B, 0, none⟩), .int .i64 0]) ∧ (∀ base, base ≤ w.heap.size → ∃ q, q.B = B ∧ RefIs base (fun i => w.heap.size ≤ i ∧ i < w'.heap.size) w' q (dev0 n)) ∧ Ch (fun _ => False) w w'
theorem four (w : World) (o0 o1 o2 o3 : Obj) : ((((w.alloc o0).alloc o1).alloc o2).alloc o3).heap[w.heap.size]? = some o0 ∧ ((((w.alloc o0).alloc o1).alloc o2).alloc o3).heap[w.heap.size + 1]? = some o1 ∧ ((((w.alloc o0).alloc o1).alloc o2).alloc o3).heap[w.heap.size + 1 + 1]? = some o2 ∧ ((((w.alloc o0).alloc o1).alloc o2).alloc o3).heap[w.heap.size + 1 + 1 + 1]? = some o3 ∧ Ch (fun _ => False) w ((((w.alloc o0).alloc o1).alloc o2).alloc o3) := by
  have s1 : (w.alloc o0).heap.size = w.heap.size + 1 := by simp
  have s2 : ((w.alloc o0).alloc o1).heap.size = w.heap.size + 1 + 1 := by simp
  have s3 : (((w.alloc o0).alloc o1).alloc o2).heap.size = w.heap.size + 1 + 1 + 1 := by simp
  have k1 : Ch (fun _ => False) (w.alloc o0) ((w.alloc o0).alloc o1) := (Ch.refl _ _).allocO _
  have k2 : Ch (fun _ => False) ((w.alloc o0).alloc o1) (((w.alloc o0).alloc o1).alloc o2) := (Ch.refl _ _).allocO _
  have k3 : Ch (fun _ => False) (((w.alloc o0).alloc o1).alloc o2) ((((w.alloc o0).alloc o1).alloc o2).alloc o3) := (Ch.refl _ _).allocO _
  refine ⟨?_, ?_, ?_, ?_, (((Ch.refl _ w).allocO _).trans (k1.trans k2)).trans k3⟩
  · exact ((k1.trans k2).trans k3).block _ (by omega) (fun f => f) |>.trans (heap_alloc_new w o0)
  · exact (k2.trans k3).block _ (by omega) (fun f => f) |>.trans (by rw [← s1]; exact heap_alloc_new _ o1)
  · exact k3.block _ (by omega) (fun f => f) |>.trans (by rw [← s2]; exact heap_alloc_new _ o2)
  · rw [← s3]; exact heap_alloc_new _ o3
theorem sec_made {w : World} {b n : Nat} {v : Value} {t : TypeId} (h : w.heap[b]? = some (.cells (madeCells #[v] n) t (0, 0))) : SecsIs w b t n (fun _ => v) := ⟨_, h, by rw [size_madeCells]; omega, fun i hi => by
  unfold madeCells
  simp [hi, Nat.mod_one]⟩
theorem step_appT {ops : Array Oper} {o : Oper} {a : Act} {w : World} {K : Act → World → Prop} {Q : Exit → Act → World → Prop} {E : Prop} (hg : o.guard = none) (s x : Operand)
    (hop : o.op = Op.call { callee := Callee.builtin Builtin.append, args := #[s, x], argTypes := #[ /-t-/62, /-t-/62] }) (hty : o.type = /-t-/62) (sv xv v' : Value) (w' : World) (hs : a.eval s = sv) (hx : a.eval x = xv)
    (hrun : (Builtin.append_ #[ /-t-/62, /-t-/62] /-t-/62 #[sv, xv]).run Try.prog w = .ok v' w') (hK : K (a.put o.dst v') w') : if Region.wanted o (yielded ops a.tmps) = true then Oper.wp Try.prog o a w K Q else E := by
  have hw : Region.wanted o (yielded ops a.tmps) = true := by simp [Region.wanted, hg]
  rw [if_pos hw]
  unfold Oper.wp
  simp only [execOp, hop, hty, resolve, invoke, builtin, Sem.run_bind, Sem.run_pure, Result.andThen_ok, List.map_toArray, List.map_cons, List.map_nil, hs, hx, hrun]
  exact hK
set_option maxHeartbeats 6400000 in
set_option maxRecDepth 100000 in
theorem rnew_any (n : Nat) (w : World) (h : 1 ≤ n) (h2 : n ≤ 4096) : Calls Try.prog 23 #[.int .i64 (n : Int)] w (RNew n w) := by
  have hm1 := makeL n h2
  have hm2 := makeI n h2
  have hm3 := makeQ n h2
  go_enter Try.func23, Try.ntmps23
  go_wp2
  go_region
  all_goals go_wp2
  all_goals
    first
    | (obtain ⟨wN, hwN⟩ : ∃ wN, wN = ((((w.alloc (.cells (madeCells #[.bool false] n) /-t-/4)).alloc (.cells (madeCells #[.int .i64 0] n) /-t-/3)).alloc (.cells (madeCells #[.slice none 0 0] n) 39)).alloc (.cells #[.slice none 0 0, .slice (some ⟨w.heap.size, 0, none⟩) n n, .slice none 0 0, .slice (some ⟨w.heap.size + 1, 0, none⟩) n n, .slice (some ⟨w.heap.size + 1 + 1, 0, none⟩) n n, .bool false, .bool false, .int .i64 0, .int .i64 0] 67)).drew := ⟨_, rfl⟩
       rw [← hwN]
       have hf := four w (.cells (madeCells #[.bool false] n) /-t-/4) (.cells (madeCells #[.int .i64 0] n) /-t-/3) (.cells (madeCells #[.slice none 0 0] n) 39) (.cells #[.slice none 0 0, .slice (some ⟨w.heap.size, 0, none⟩) n n, .slice none 0 0, .slice (some ⟨w.heap.size + 1, 0, none⟩) n n, .slice (some ⟨w.heap.size + 1 + 1, 0, none⟩) n n, .bool false, .bool false, .int .i64 0, .int .i64 0] 67)
       have hN0 : ∃ v s, NewSt w wN n 0 (w.heap.size + 1 + 1 + 1) (w.heap.size) (w.heap.size + 1) (w.heap.size + 1 + 1) v s := by
         rw [hwN]
         exact ⟨.slice none 0 0, fun _ => .slice none 0 0, hf.2.2.2.1, World.ownsRow_nil _ _ _ _, fun a ha => absurd ha (Nat.not_lt_zero a), sec_made hf.1, sec_made hf.2.1, sec_made hf.2.2.1, ⟨by omega, by omega, by omega, by omega⟩, hf.2.2.2.2.drew⟩
       obtain ⟨B, hB⟩ : ∃ B, B = w.heap.size + 1 + 1 + 1 := ⟨_, rfl⟩
       obtain ⟨Q, hb2⟩ : ∃ x, x = w.heap.size + 1 + 1 := ⟨_, rfl⟩
       obtain ⟨P, hb1⟩ : ∃ x, x = w.heap.size + 1 := ⟨_, rfl⟩
       obtain ⟨L, hb0⟩ : ∃ x, x = w.heap.size := ⟨_, rfl⟩
       rw [← hB, ← hb2, ← hb1, ← hb0] at hN0
       rw [← hB, ← hb2, ← hb1, ← hb0]
       clear hf hwN hB hb2 hb1 hb0)
    | (obtain ⟨wN, hwN⟩ : ∃ wN, wN = ((((w.alloc (.cells (madeCells #[.bool false] n) /-t-/4)).alloc (.cells (madeCells #[.slice none 0 0] n) 39)).alloc (.cells (madeCells #[.int .i64 0] n) /-t-/3)).alloc (.cells #[.slice none 0 0, .slice (some ⟨w.heap.size, 0, none⟩) n n, .slice none 0 0, .slice (some ⟨w.heap.size + 1 + 1, 0, none⟩) n n, .slice (some ⟨w.heap.size + 1, 0, none⟩) n n, .bool false, .bool false, .int .i64 0, .int .i64 0] 67)).drew := ⟨_, rfl⟩
       rw [← hwN]
       have hf := four w (.cells (madeCells #[.bool false] n) /-t-/4) (.cells (madeCells #[.slice none 0 0] n) 39) (.cells (madeCells #[.int .i64 0] n) /-t-/3) (.cells #[.slice none 0 0, .slice (some ⟨w.heap.size, 0, none⟩) n n, .slice none 0 0, .slice (some ⟨w.heap.size + 1 + 1, 0, none⟩) n n, .slice (some ⟨w.heap.size + 1, 0, none⟩) n n, .bool false, .bool false, .int .i64 0, .int .i64 0] 67)
       have hN0 : ∃ v s, NewSt w wN n 0 (w.heap.size + 1 + 1 + 1) (w.heap.size) (w.heap.size + 1 + 1) (w.heap.size + 1) v s := by
         rw [hwN]
         exact ⟨.slice none 0 0, fun _ => .slice none 0 0, hf.2.2.2.1, World.ownsRow_nil _ _ _ _, fun a ha => absurd ha (Nat.not_lt_zero a), sec_made hf.1, sec_made hf.2.2.1, sec_made hf.2.1, ⟨by omega, by omega, by omega, by omega⟩, hf.2.2.2.2.drew⟩
       obtain ⟨B, hB⟩ : ∃ B, B = w.heap.size + 1 + 1 + 1 := ⟨_, rfl⟩
       obtain ⟨P, hb2⟩ : ∃ x, x = w.heap.size + 1 + 1 := ⟨_, rfl⟩
       obtain ⟨Q, hb1⟩ : ∃ x, x = w.heap.size + 1 := ⟨_, rfl⟩
       obtain ⟨L, hb0⟩ : ∃ x, x = w.heap.size := ⟨_, rfl⟩
       rw [← hB, ← hb2, ← hb1, ← hb0] at hN0
       rw [← hB, ← hb2, ← hb1, ← hb0]
       clear hf hwN hB hb2 hb1 hb0)
    | (obtain ⟨wN, hwN⟩ : ∃ wN, wN = ((((w.alloc (.cells (madeCells #[.int .i64 0] n) /-t-/3)).alloc (.cells (madeCells #[.bool false] n) /-t-/4)).alloc (.cells (madeCells #[.slice none 0 0] n) 39)).alloc (.cells #[.slice none 0 0, .slice (some ⟨w.heap.size + 1, 0, none⟩) n n, .slice none 0 0, .slice (some ⟨w.heap.size, 0, none⟩) n n, .slice (some ⟨w.heap.size + 1 + 1, 0, none⟩) n n, .bool false, .bool false, .int .i64 0, .int .i64 0] 67)).drew := ⟨_, rfl⟩
       rw [← hwN]
       have hf := four w (.cells (madeCells #[.int .i64 0] n) /-t-/3) (.cells (madeCells #[.bool false] n) /-t-/4) (.cells (madeCells #[.slice none 0 0] n) 39) (.cells #[.slice none 0 0, .slice (some ⟨w.heap.size + 1, 0, none⟩) n n, .slice none 0 0, .slice (some ⟨w.heap.size, 0, none⟩) n n, .slice (some ⟨w.heap.size + 1 + 1, 0, none⟩) n n, .bool false, .bool false, .int .i64 0, .int .i64 0] 67)
       have hN0 : ∃ v s, NewSt w wN n 0 (w.heap.size + 1 + 1 + 1) (w.heap.size + 1) (w.heap.size) (w.heap.size + 1 + 1) v s := by
         rw [hwN]
         exact ⟨.slice none 0 0, fun _ => .slice none 0 0, hf.2.2.2.1, World.ownsRow_nil _ _ _ _, fun a ha => absurd ha (Nat.not_lt_zero a), sec_made hf.2.1, sec_made hf.1, sec_made hf.2.2.1, ⟨by omega, by omega, by omega, by omega⟩, hf.2.2.2.2.drew⟩
       obtain ⟨B, hB⟩ : ∃ B, B = w.heap.size + 1 + 1 + 1 := ⟨_, rfl⟩
       obtain ⟨Q, hb2⟩ : ∃ x, x = w.heap.size + 1 + 1 := ⟨_, rfl⟩
       obtain ⟨L, hb1⟩ : ∃ x, x = w.heap.size + 1 := ⟨_, rfl⟩
       obtain ⟨P, hb0⟩ : ∃ x, x = w.heap.size := ⟨_, rfl⟩
       rw [← hB, ← hb2, ← hb1, ← hb0] at hN0
       rw [← hB, ← hb2, ← hb1, ← hb0]
       clear hf hwN hB hb2 hb1 hb0)
    | (obtain ⟨wN, hwN⟩ : ∃ wN, wN = ((((w.alloc (.cells (madeCells #[.int .i64 0] n) /-t-/3)).alloc (.cells (madeCells #[.slice none 0 0] n) 39)).alloc (.cells (madeCells #[.bool false] n) /-t-/4)).alloc (.cells #[.slice none 0 0, .slice (some ⟨w.heap.size + 1 + 1, 0, none⟩) n n, .slice none 0 0, .slice (some ⟨w.heap.size, 0, none⟩) n n, .slice (some ⟨w.heap.size + 1, 0, none⟩) n n, .bool false, .bool false, .int .i64 0, .int .i64 0] 67)).drew := ⟨_, rfl⟩
       rw [← hwN]
       have hf := four w (.cells (madeCells #[.int .i64 0] n) /-t-/3) (.cells (madeCells #[.slice none 0 0] n) 39) (.cells (madeCells #[.bool false] n) /-t-/4) (.cells #[.slice none 0 0, .slice (some ⟨w.heap.size + 1 + 1, 0, none⟩) n n, .slice none 0 0, .slice (some ⟨w.heap.size, 0, none⟩) n n, .slice (some ⟨w.heap.size + 1, 0, none⟩) n n, .bool false, .bool false, .int .i64 0, .int .i64 0] 67)
       have hN0 : ∃ v s, NewSt w wN n 0 (w.heap.size + 1 + 1 + 1) (w.heap.size + 1 + 1) (w.heap.size) (w.heap.size + 1) v s := by
         rw [hwN]
         exact ⟨.slice none 0 0, fun _ => .slice none 0 0, hf.2.2.2.1, World.ownsRow_nil _ _ _ _, fun a ha => absurd ha (Nat.not_lt_zero a), sec_made hf.2.2.1, sec_made hf.1, sec_made hf.2.1, ⟨by omega, by omega, by omega, by omega⟩, hf.2.2.2.2.drew⟩
       obtain ⟨B, hB⟩ : ∃ B, B = w.heap.size + 1 + 1 + 1 := ⟨_, rfl⟩
       obtain ⟨L, hb2⟩ : ∃ x, x = w.heap.size + 1 + 1 := ⟨_, rfl⟩
       obtain ⟨Q, hb1⟩ : ∃ x, x = w.heap.size + 1 := ⟨_, rfl⟩
       obtain ⟨P, hb0⟩ : ∃ x, x = w.heap.size := ⟨_, rfl⟩
       rw [← hB, ← hb2, ← hb1, ← hb0] at hN0
       rw [← hB, ← hb2, ← hb1, ← hb0]
       clear hf hwN hB hb2 hb1 hb0)
    | (obtain ⟨wN, hwN⟩ : ∃ wN, wN = ((((w.alloc (.cells (madeCells #[.slice none 0 0] n) 39)).alloc (.cells (madeCells #[.bool false] n) /-t-/4)).alloc (.cells (madeCells #[.int .i64 0] n) /-t-/3)).alloc (.cells #[.slice none 0 0, .slice (some ⟨w.heap.size + 1, 0, none⟩) n n, .slice none 0 0, .slice (some ⟨w.heap.size + 1 + 1, 0, none⟩) n n, .slice (some ⟨w.heap.size, 0, none⟩) n n, .bool false, .bool false, .int .i64 0, .int .i64 0] 67)).drew := ⟨_, rfl⟩
       rw [← hwN]
       have hf := four w (.cells (madeCells #[.slice none 0 0] n) 39) (.cells (madeCells #[.bool false] n) /-t-/4) (.cells (madeCells #[.int .i64 0] n) /-t-/3) (.cells #[.slice none 0 0, .slice (some ⟨w.heap.size + 1, 0, none⟩) n n, .slice none 0 0, .slice (some ⟨w.heap.size + 1 + 1, 0, none⟩) n n, .slice (some ⟨w.heap.size, 0, none⟩) n n, .bool false, .bool false, .int .i64 0, .int .i64 0] 67)
       have hN0 : ∃ v s, NewSt w wN n 0 (w.heap.size + 1 + 1 + 1) (w.heap.size + 1) (w.heap.size + 1 + 1) (w.heap.size) v s := by
         rw [hwN]
         exact ⟨.slice none 0 0, fun _ => .slice none 0 0, hf.2.2.2.1, World.ownsRow_nil _ _ _ _, fun a ha => absurd ha (Nat.not_lt_zero a), sec_made hf.2.1, sec_made hf.2.2.1, sec_made hf.1, ⟨by omega, by omega, by omega, by omega⟩, hf.2.2.2.2.drew⟩
       obtain ⟨B, hB⟩ : ∃ B, B = w.heap.size + 1 + 1 + 1 := ⟨_, rfl⟩
       obtain ⟨P, hb2⟩ : ∃ x, x = w.heap.size + 1 + 1 := ⟨_, rfl⟩
       obtain ⟨L, hb1⟩ : ∃ x, x = w.heap.size + 1 := ⟨_, rfl⟩
       obtain ⟨Q, hb0⟩ : ∃ x, x = w.heap.size := ⟨_, rfl⟩
       rw [← hB, ← hb2, ← hb1, ← hb0] at hN0
       rw [← hB, ← hb2, ← hb1, ← hb0]
       clear hf hwN hB hb2 hb1 hb0)
    | (obtain ⟨wN, hwN⟩ : ∃ wN, wN = ((((w.alloc (.cells (madeCells #[.slice none 0 0] n) 39)).alloc (.cells (madeCells #[.int .i64 0] n) /-t-/3)).alloc (.cells (madeCells #[.bool false] n) /-t-/4)).alloc (.cells #[.slice none 0 0, .slice (some ⟨w.heap.size + 1 + 1, 0, none⟩) n n, .slice none 0 0, .slice (some ⟨w.heap.size + 1, 0, none⟩) n n, .slice (some ⟨w.heap.size, 0, none⟩) n n, .bool false, .bool false, .int .i64 0, .int .i64 0] 67)).drew := ⟨_, rfl⟩
       rw [← hwN]
       have hf := four w (.cells (madeCells #[.slice none 0 0] n) 39) (.cells (madeCells #[.int .i64 0] n) /-t-/3) (.cells (madeCells #[.bool false] n) /-t-/4) (.cells #[.slice none 0 0, .slice (some ⟨w.heap.size + 1 + 1, 0, none⟩) n n, .slice none 0 0, .slice (some ⟨w.heap.size + 1, 0, none⟩) n n, .slice (some ⟨w.heap.size, 0, none⟩) n n, .bool false, .bool false, .int .i64 0, .int .i64 0] 67)
       have hN0 : ∃ v s, NewSt w wN n 0 (w.heap.size + 1 + 1 + 1) (w.heap.size + 1 + 1) (w.heap.size + 1) (w.heap.size) v s := by
         rw [hwN]
         exact ⟨.slice none 0 0, fun _ => .slice none 0 0, hf.2.2.2.1, World.ownsRow_nil _ _ _ _, fun a ha => absurd ha (Nat.not_lt_zero a), sec_made hf.2.2.1, sec_made hf.2.1, sec_made hf.1, ⟨by omega, by omega, by omega, by omega⟩, hf.2.2.2.2.drew⟩
       obtain ⟨B, hB⟩ : ∃ B, B = w.heap.size + 1 + 1 + 1 := ⟨_, rfl⟩
       obtain ⟨L, hb2⟩ : ∃ x, x = w.heap.size + 1 + 1 := ⟨_, rfl⟩
       obtain ⟨P, hb1⟩ : ∃ x, x = w.heap.size + 1 := ⟨_, rfl⟩
       obtain ⟨Q, hb0⟩ : ∃ x, x = w.heap.size := ⟨_, rfl⟩
       rw [← hB, ← hb2, ← hb1, ← hb0] at hN0
       rw [← hB, ← hb2, ← hb1, ← hb0]
       clear hf hwN hB hb2 hb1 hb0)
  all_goals
    have HN0 := Lib.hid hN0
    clear hN0 hm1 hm2 hm3
    go_loopw [5] (fun i wr => ∃ k : Nat, k ≤ n ∧ i = .int .i64 k ∧ Hid (∃ v s, NewSt w wr n k B L P Q v s)) (fun i _ => n - (intOf i).toNat)
    case atStart => exact ⟨0, Nat.zero_le _, rfl, HN0⟩
    case round =>
      obtain ⟨k, hk, rfl, HK⟩ := hrel
      obtain ⟨v, s, hst⟩ := HK.out
      by_cases hlt : k < n
      · obtain ⟨wd, hwd⟩ : ∃ wd, wd = wr.drew := ⟨_, rfl⟩
        have hsd := hst.gr (w' := wd) (by rw [hwd]; exact (Ch.refl _ wr).drew)
        obtain ⟨g, cap, w2, hr, hnx, e2, f2⟩ := hsd.next (by omega)
        have cd : wd.cell? ⟨B, 0, none⟩ = some v := blk_cell hsd.blk
        have hmk := make256 wd
        obtain ⟨wa, hwa⟩ : ∃ wa, wa = wd.alloc (.cells (madeCells #[.int .u8 0] 256) /-t-/5) := ⟨_, rfl⟩
        obtain ⟨K1, hK1⟩ : ∃ K1, K1 = wd.heap.size := ⟨_, rfl⟩
        have hsa : wa.heap.size = K1 + 1 := by rw [hwa, hK1]; simp
        have ca : wa.cell? ⟨B, 0, none⟩ = some v := by rw [hwa]; exact Lib.cell?_alloc_some _ cd
        obtain ⟨ws, hws⟩ : ∃ ws, ws = wa.alloc (.cells #[.slice (some ⟨K1, 0, none⟩) 256 256] /-t-/47) := ⟨_, rfl⟩
        have cs : ws.cell? ⟨B, 0, none⟩ = some v := by rw [hws]; exact Lib.cell?_alloc_some _ ca
        obtain ⟨K2, hK2⟩ : ∃ K2, wa.heap.size = K2 := ⟨_, rfl⟩
        rw [← hK1, ← hwa] at hmk
        rw [← hK1, ← hwa, ← hws, show K1 + 1 = K2 by omega] at hr
        obtain ⟨N, hN⟩ : ∃ N, N = k + 1 := ⟨_, rfl⟩
        rw [← hN] at hr
        have HNX := Lib.hid (show ∃ v s, NewSt w (w2.setCell ⟨B, 0, none⟩ (.slice (some ⟨g, 0, none⟩) N cap)) n (k + 1) B L P Q v s from by rw [hN]; exact ⟨_, _, hnx⟩)
        obtain ⟨vA, vC, hv⟩ : ∃ A C, v = .slice A k C := by
          rcases hst.own.2 with ⟨e, e0⟩ | ⟨_, _, _, e, _⟩
          · exact ⟨none, 0, by rw [e, e0]⟩
          · exact ⟨_, _, e⟩
        subst hv
        have HRUN := Lib.hid hr
        have HWD := Lib.hid hwd
        have HWS := Lib.hid hws.symm
        have HK2 := Lib.hid hK2
        clear hst hsd hr hnx hwd hwa hK1 hsa hws hK2 hN
        have i1 : (0 : Int) ≤ (k : Int) := Int.natCast_nonneg _
        have i2 : (k : Int) < (n : Int) := by omega
        go_wp2
        refine wp_region_held (S := fun _ => True) (by kernel_rfl) ?_
        change wpAnyH _ _ _ _ _ _ _ _ (World.drew _)
        rw [← HWD.out]
        have HS : (fun _ : World => True) wd := trivial
        refine wpAnyH_take (i := 0) (v := .pointer (some ⟨B, 0, none⟩)) rfl (by kernel_rfl) (by kernel_rfl) (by kernel_rfl) (fun _ _ _ h => h) (Or.inl ⟨by rfl, fun w' hS => ?_⟩) HS ?_
        · clear hS; go_simp
        refine wpAnyH_take (i := 1) (v := .pointer (some ⟨B, 0, none⟩)) rfl (by kernel_rfl) (by kernel_rfl) (by kernel_rfl) (fun _ _ _ h => h) (Or.inl ⟨by rfl, fun w' hS => ?_⟩) HS ?_
        · clear hS; go_simp
        refine wpAnyH_take (i := 2) (v := .pointer (some ⟨B, 0, none⟩)) rfl (by kernel_rfl) (by kernel_rfl) (by kernel_rfl) (fun _ _ _ h => h) (Or.inl ⟨by rfl, fun w' hS => ?_⟩) HS ?_
        · clear hS; go_simp
        refine wpAnyH_take (i := 3) (v := .pointer (some ⟨B, 0, none⟩)) rfl (by kernel_rfl) (by kernel_rfl) (by kernel_rfl) (fun _ _ _ h => h) (Or.inl ⟨by rfl, fun w' hS => ?_⟩) HS ?_
        · clear hS; go_simp
        refine wpAnyH_ready (rs := [4, 5]) (by kernel_rfl) (by simp) ?_
        refine AllReadyH.cons rfl (fun K hK => ?_) (AllReadyH.cons rfl (fun K hK => ?_) AllReadyH.nil)
        · go_simp
          refine hK.out _ _ trivial (fun _ => ?_)
          clear hK K
          refine wpAnyH_ready (rs := [5]) (by kernel_rfl) (by simp) ?_
          refine AllReadyH.cons rfl (fun K hK => ?_) AllReadyH.nil
          go_simp
          refine hK.out _ _ trivial (fun _ => ?_)
          clear hK K
          refine wpAnyH_ready (rs := [6]) (by kernel_rfl) (by simp) ?_
          refine AllReadyH.cons rfl (fun K hK => ?_) AllReadyH.nil
          go_simp
          rw [HWS.out, HK2.out]
          refine hK.out _ _ trivial (fun _ => ?_)
          clear hK K
          refine wpAnyH_ready (rs := [7]) (by kernel_rfl) (by simp) ?_
          refine AllReadyH.cons rfl (fun K hK => ?_) AllReadyH.nil
          refine step_appT rfl (.tmp 29) (.tmp 31) rfl rfl _ _ (.slice (some ⟨g, 0, none⟩) N cap) w2 (by first | (simp [Act.eval]; done) | simp [Act.eval, Act.put]) (by first | (simp [Act.eval]; done) | simp [Act.eval, Act.put]) HRUN.out ?_
          refine hK.out _ _ trivial (fun _ => ?_)
          clear hK K
          refine wpAnyH_ready (rs := [8]) (by kernel_rfl) (by simp) ?_
          refine AllReadyH.cons rfl (fun K hK => ?_) AllReadyH.nil
          go_simp
          refine hK.out _ _ trivial (fun _ => ?_)
          clear hK K
          refine wpAnyH_ready (rs := [9]) (by kernel_rfl) (by simp) ?_
          refine AllReadyH.cons rfl (fun K hK => ?_) AllReadyH.nil
          go_simp
          refine hK.out _ _ trivial (fun _ => ?_)
          clear hK K
          refine wpAnyH_ready (rs := [10]) (by kernel_rfl) (by simp) ?_
          refine AllReadyH.cons rfl (fun K hK => ?_) AllReadyH.nil
          go_simp
          refine hK.out _ _ trivial (fun _ => ?_)
          clear hK K
          refine wpAnyH_done (by kernel_rfl) ?_ _
          go_wp2
          go_roundw
          case rel => exact ⟨k + 1, by omega, by go_num, HNX⟩
          case measure => simp [intOf]; omega
        · go_simp
          refine hK.out _ _ trivial (fun _ => ?_)
          clear hK K
          refine wpAnyH_ready (rs := [4, 6]) (by kernel_rfl) (by simp) ?_
          refine AllReadyH.cons rfl (fun K hK => ?_) (AllReadyH.cons rfl (fun K hK => ?_) AllReadyH.nil)
          · go_simp
            refine hK.out _ _ trivial (fun _ => ?_)
            clear hK K
            refine wpAnyH_ready (rs := [6]) (by kernel_rfl) (by simp) ?_
            refine AllReadyH.cons rfl (fun K hK => ?_) AllReadyH.nil
            go_simp
            rw [HWS.out, HK2.out]
            refine hK.out _ _ trivial (fun _ => ?_)
            clear hK K
            refine wpAnyH_ready (rs := [7]) (by kernel_rfl) (by simp) ?_
            refine AllReadyH.cons rfl (fun K hK => ?_) AllReadyH.nil
            refine step_appT rfl (.tmp 29) (.tmp 31) rfl rfl _ _ (.slice (some ⟨g, 0, none⟩) N cap) w2 (by first | (simp [Act.eval]; done) | simp [Act.eval, Act.put]) (by first | (simp [Act.eval]; done) | simp [Act.eval, Act.put]) HRUN.out ?_
            refine hK.out _ _ trivial (fun _ => ?_)
            clear hK K
            refine wpAnyH_ready (rs := [8]) (by kernel_rfl) (by simp) ?_
            refine AllReadyH.cons rfl (fun K hK => ?_) AllReadyH.nil
            go_simp
            refine hK.out _ _ trivial (fun _ => ?_)
            clear hK K
            refine wpAnyH_ready (rs := [9]) (by kernel_rfl) (by simp) ?_
            refine AllReadyH.cons rfl (fun K hK => ?_) AllReadyH.nil
            go_simp
            refine hK.out _ _ trivial (fun _ => ?_)
            clear hK K
            refine wpAnyH_ready (rs := [10]) (by kernel_rfl) (by simp) ?_
            refine AllReadyH.cons rfl (fun K hK => ?_) AllReadyH.nil
            go_simp
            refine hK.out _ _ trivial (fun _ => ?_)
            clear hK K
            refine wpAnyH_done (by kernel_rfl) ?_ _
            go_wp2
            go_roundw
            case rel => exact ⟨k + 1, by omega, by go_num, HNX⟩
            case measure => simp [intOf]; omega
          · go_simp
            rw [HWS.out, HK2.out]
            refine hK.out _ _ trivial (fun _ => ?_)
            clear hK K
            refine wpAnyH_ready (rs := [4]) (by kernel_rfl) (by simp) ?_
            refine AllReadyH.cons rfl (fun K hK => ?_) AllReadyH.nil
            go_simp
            refine hK.out _ _ trivial (fun _ => ?_)
            clear hK K
            refine wpAnyH_ready (rs := [7]) (by kernel_rfl) (by simp) ?_
            refine AllReadyH.cons rfl (fun K hK => ?_) AllReadyH.nil
            refine step_appT rfl (.tmp 29) (.tmp 31) rfl rfl _ _ (.slice (some ⟨g, 0, none⟩) N cap) w2 (by first | (simp [Act.eval]; done) | simp [Act.eval, Act.put]) (by first | (simp [Act.eval]; done) | simp [Act.eval, Act.put]) HRUN.out ?_
            refine hK.out _ _ trivial (fun _ => ?_)
            clear hK K
            refine wpAnyH_ready (rs := [8]) (by kernel_rfl) (by simp) ?_
            refine AllReadyH.cons rfl (fun K hK => ?_) AllReadyH.nil
            go_simp
            refine hK.out _ _ trivial (fun _ => ?_)
            clear hK K
            refine wpAnyH_ready (rs := [9]) (by kernel_rfl) (by simp) ?_
            refine AllReadyH.cons rfl (fun K hK => ?_) AllReadyH.nil
            go_simp
            refine hK.out _ _ trivial (fun _ => ?_)
            clear hK K
            refine wpAnyH_ready (rs := [10]) (by kernel_rfl) (by simp) ?_
            refine AllReadyH.cons rfl (fun K hK => ?_) AllReadyH.nil
            go_simp
            refine hK.out _ _ trivial (fun _ => ?_)
            clear hK K
            refine wpAnyH_done (by kernel_rfl) ?_ _
            go_wp2
            go_roundw
            case rel => exact ⟨k + 1, by omega, by go_num, HNX⟩
            case measure => simp [intOf]; omega
      · obtain rfl : k = n := by omega
        have HP := Lib.hid (show RNew k w (.returned (.tuple #[.pointer (some ⟨B, 0, none⟩), .int .i64 0])) wr from ⟨B, rfl, fun base hb => hst.done ⟨h, h2⟩ hb, hst.ch⟩)
        clear hst
        go_wp2
        go_ret2
        exact HP.out
#print axioms rnew_any
end Go.Proofs.Ytjibfoplihaabaa
