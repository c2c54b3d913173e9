/-
  Rows of ints in memory: rows that are read, rows of one's own, a number behind them; rows that are handed in, opened. The document's May, Groups, Bears, Ints (quartermasterref08), walked. Where a snapshot's stripes stand; the document's word and First (quartermasterref12), walked. geo.groupOf and the functions that tell a group's sectors, Bears, Members, walked.
-/
import Derived.Test.YtlbdopcchoklhaaGreatMh1
import Derived.Test.YtlbdopcchoklhaaGreatMh2
import Derived.Laws.ResultCell
import Derived.Deep.DeepCutAuto
namespace Go.Proofs.YtlbdopcchoklhaaGreat
open Go.ChangeShapes Go.WideShapes Go.ChangeAt Go.RowKit Go.Deep
set_option linter.unusedVariables false
set_option maxRecDepth 100000

theorem Tryz.infoI : (Tryz.prog.info? /-t-/3).map (fun i => (i.zero, i.size, i.bytes)) = some (some (.int .i64 0), 1, 8) := by kernel_rfl
theorem underI : Tryz.prog.underlying 58 = some (.slice /-t-/3) := by kernel_rfl
/-! ### lists of ints -/
def numL (k : Nat) (q : Nat → Int) : List Value := (List.range k).map fun c => Value.int .i64 (q c)
theorem numL_get {k c : Nat} {q : Nat → Int} (h : c < k) : (numL k q)[c]? = some (.int .i64 (q c)) := by unfold numL; simp [h]
theorem numL_snoc (k : Nat) (q : Nat → Int) : numL (k + 1) q = numL k q ++ [Value.int .i64 (q k)] := by unfold numL; rw [List.range_succ, List.map_append]; rfl
/-! ### a row, tto be read -/
def IntV (w : World) (v : Value) (n : Nat) (q : Nat → Int) : Prop :=
  ∃ (A : Option Addr) (C : Nat), v = .slice A n C ∧ (n ≤ 140737488351232 ∧ n ≤ C) ∧ (0 < n → ∃ b o, A = some ⟨b, o, none⟩ ∧ ∀ c, c < n → w.cell? ⟨b, o + c, none⟩ = some (.int .i64 (q c)))
theorem IntV.ch {S : Nat → Prop} {w w' : World} {v : Value} {n : Nat} {q : Nat → Int} (h : IntV w v n q) (k : Ch S w w') (hS : ∀ i, i < w.heap.size → ¬ S i) : IntV w' v n q := by
  obtain ⟨A, C, h1, h2, h3⟩ := h
  refine ⟨A, C, h1, h2, fun hl => ?_⟩
  obtain ⟨b, o, hA, hc⟩ := h3 hl
  exact ⟨b, o, hA, fun c hcl => k.cell (hc c hcl) (hS _ (World.block_lt_of_cell? _ _ (hc c hcl)))⟩
theorem IntV.gr {w w' : World} {v : Value} {n : Nat} {q : Nat → Int} (h : IntV w v n q) (k : Ch (fun _ => False) w w') : IntV w' v n q := h.ch k (fun _ _ f => f)
theorem IntV.congr {w : World} {v : Value} {n : Nat} {q r : Nat → Int} (h : IntV w v n q) (e : ∀ c, c < n → q c = r c) : IntV w v n r := by
  obtain ⟨A, C, h1, h2, h3⟩ := h
  refine ⟨A, C, h1, h2, fun hl => ?_⟩
  obtain ⟨b, o, hA, hc⟩ := h3 hl
  exact ⟨b, o, hA, fun c hcl => by rw [← e c hcl]; exact hc c hcl⟩
theorem IntV.at {w : World} {A : Option Addr} {n C : Nat} {q : Nat → Int} (h : IntV w (.slice A n C) n q) (hn : 0 < n) : ∃ b o, A = some ⟨b, o, none⟩ ∧ ∀ c, c < n → w.cell? ⟨b, o + c, none⟩ = some (.int .i64 (q c)) := by
  obtain ⟨_, _, e, _, h3⟩ := h
  injection e with e _ _
  subst e
  exact h3 hn
theorem IntV.len {w : World} {v : Value} {n : Nat} {q : Nat → Int} (h : IntV w v n q) : ∃ A C, v = .slice A n C ∧ n ≤ 140737488351232 := by
  obtain ⟨A, C, h1, h2, _⟩ := h
  exact ⟨A, C, h1, h2.1⟩
theorem made_int (n : Nat) (w : World) (hn : n ≤ 1048576) : (Instr.makeSlice 58 (.int .i64 (n : Int)) (.int .i64 (n : Int))).run Tryz.prog w = .ok (.slice (some ⟨w.heap.size, 0, none⟩) n n) (w.alloc (.cells (madeCells #[.int .i64 0] n) /-t-/3)) := by
  obtain ⟨i0, hi, hz0, hz1, hz2⟩ := info_parts Tryz.infoI
  have := run_make (P := Tryz.prog) w 58 /-t-/3 i0 (.int .i64 0) underI hi hz0 .i64 .i64 n n (by omega) (by omega) (by rw [hz2]; omega) (by omega)
  rw [hz1, Int.toNat_natCast, Nat.mul_one] at this
  exact this
theorem made_row (n : Nat) (w : World) : (w.alloc (.cells (madeCells #[.int .i64 0] n) /-t-/3)).rowIs w.heap.size /-t-/3 n (fun _ => .int .i64 0) := World.rowIs_made w (.int .i64 0) n /-t-/3

/-! ### a number behind them -/
theorem wpList_appI {ops : Array Oper} {rest : List Oper} {o : Oper} {a : Act} {Q : Exit → Act → World → Prop} (w : World) (hgd : o.guard = none) (s x : Operand)
    (ho : o.op = .call { callee := .builtin .append, args := #[s, x], argTypes := #[ 58, 58] }) (hty : o.type = 58) (sv xv v' : Value) (w' : World) (hs : a.eval s = sv) (hx : a.eval x = xv)
    (hrun : (Builtin.append_ #[ 58, 58] 58 #[sv, xv]).run Tryz.prog w = .ok v' w') (h : wpList Tryz.prog ops Q rest (a.put o.dst v') w') : wpList Tryz.prog ops Q (o :: rest) a w := by
  refine wpList_plain hgd fun _ hK => ?_
  unfold Oper.wp execOp
  simp only [ho, hty, resolve, invoke, builtin, Sem.run_bind, Sem.run_pure, Result.andThen_ok, List.map_toArray, List.map_cons, List.map_nil, hs, hx, hrun]
  exact hK _ _ h
/-- Numbers that a call has gathered, one behind the other, since 'w'. -/
structure Nums (w wr : World) (v : Value) (k : Nat) (q : Nat → Int) : Prop where
  own : wr.ownsRow w.heap.size /-t-/3 1 v k (numL k q)
  ch : Ch (fun _ => False) w wr
theorem Nums.start (w : World) (q : Nat → Int) : Nums w w (.slice none 0 0) 0 q := ⟨World.ownsRow_nil w w.heap.size /-t-/3 1, Ch.refl _ w⟩
theorem Nums.app {w wr : World} {v : Value} {k : Nat} {q : Nat → Int} (h : Nums w wr v k q) (hk : k ≤ 1048576) :
    ∃ g cap w2, (∀ x, x = q k → (Builtin.append_ #[ 58, 58] 58 #[v, .slice (some ⟨wr.heap.size, 0, none⟩) 1 1]).run Tryz.prog (wr.alloc (.cells #[.int .i64 x] /-t-/3)) = .ok (.slice (some ⟨g, 0, none⟩) (k + 1) cap) w2) ∧ Nums w w2 (.slice (some ⟨g, 0, none⟩) (k + 1) cap) (k + 1) q := by
  obtain ⟨i0, hi, hz0, hz1, hz2⟩ := info_parts Tryz.infoI
  have k1 : Ch (fun _ => False) wr (wr.alloc (.cells #[.int .i64 (q k)] /-t-/3)) := (Ch.refl _ wr).alloc _ _
  obtain ⟨g, cap, w2, hr, h2, h3, h4, _⟩ := run_append_lies (P := Tryz.prog) (wr.alloc (.cells #[.int .i64 (q k)] /-t-/3)) 58 58 w.heap.size /-t-/3 i0 (.int .i64 0) 1 8 underI hi hz0 hz1 hz2 rfl (by decide) v k (numL k q) (ownsRow_ch h.own k1) ⟨wr.heap.size, 0, none⟩ 1 1 [.int .i64 (q k)] rfl (fun j u hu => by
    rw [add_pl, blk_cell (heap_alloc_new wr _), Nat.zero_add]
    show ([Value.int .i64 (q k)].toArray)[j]? = some u
    rw [List.getElem?_toArray]
    exact hu) (fun u hu => by rw [List.mem_singleton.1 hu]; rfl) (by omega) (by unfold maxLen; omega) (by omega) (Nat.le_trans h.ch.size k1.size) _ rfl
  rw [← numL_snoc] at h2
  refine ⟨g, cap, w2, fun x hx => by subst hx; exact hr, h2, ?_⟩
  have kc := h.ch.trans k1
  have k2 : Ch (fun i => v.ownBlock = some i) (wr.alloc (.cells #[.int .i64 (q k)] /-t-/3)) w2 := (Ch.refl _ _).grown h3 (fun i hi => Or.inl hi)
  refine kc.new (k2.mono fun i _ hi => ?_)
  exact (own_at h.own hi).1
/-! ### a row that is handed in -/
end Go.Proofs.YtlbdopcchoklhaaGreat
namespace Go.Proofs.YtlbdopcchoklhaaGreat
open Go.RowKit
set_option linter.unusedVariables false
set_option maxRecDepth 100000

/-! ### May -/
set_option maxHeartbeats 1600000 in
theorem rgmay_any (g : Ge) (w : World) : Calls Tryz.prog 26 #[.agg (geC g)] w (Ans (.bool (mayG g)) w) := by
  obtain ⟨w1, H, hR⟩ := geR w g
  obtain ⟨x0, x1, x2, x3⟩ := hR.x
  have HR := Lib.hid hR
  clear hR
  cases t1 : mayG g
  · obtain ⟨a, b, c, d⟩ := g
    simp only at x0 x1 x2 x3
    have hcase : (a < 8 ∨ (8 ≤ a ∧ 512 < a)) ∨ ((8 ≤ a ∧ a ≤ 512) ∧ (b < 1 ∨ (1 ≤ b ∧ 32 < b))) ∨ ((8 ≤ a ∧ a ≤ 512) ∧ (1 ≤ b ∧ b ≤ 32) ∧ (c < 1 ∨ (1 ≤ c ∧ 16 < c))) ∨ ((8 ≤ a ∧ a ≤ 512) ∧ (1 ≤ b ∧ b ≤ 32) ∧ (1 ≤ c ∧ c ≤ 16) ∧ (d < 1 ∨ (1 ≤ d ∧ 8 < d))) := by
      have h2 : ¬ ((8 ≤ a ∧ a ≤ 512) ∧ (1 ≤ b ∧ b ≤ 32) ∧ (1 ≤ c ∧ c ≤ 16) ∧ (1 ≤ d ∧ d ≤ 8)) := fun q => by
        have : mayG ⟨a, b, c, d⟩ = true := by
          rw [mayG_eq]
          simp only [Bool.and_eq_true, inB_true]
          exact q
        rw [t1] at this
        cases this
      omega
    have HC := Lib.hid hcase
    clear hcase t1
    rcases HC.out with (h | ⟨h, k⟩) | ⟨⟨p1, p2⟩, (h | ⟨h, k⟩)⟩ | ⟨⟨p1, p2⟩, ⟨p3, p4⟩, (h | ⟨h, k⟩)⟩ | ⟨⟨p1, p2⟩, ⟨p3, p4⟩, ⟨p5, p6⟩, (h | ⟨h, k⟩)⟩
    all_goals (
      clear HC
      go_enter Tryz.func26, Tryz.ntmps26
      go_wp2_with ((with_reducible refine wpList_isOp (.box 23 (.tmp 0)) rfl ?_); refine wpList_boxing _ w1 rfl 23 (.tmp 0) rfl (geC ⟨a, b, c, d⟩) H rfl (by exact HR.out.sz) (by exact HR.out.al) ?_)
      go_ret
      exact ⟨rfl, HR.out.ch⟩)
  · obtain ⟨n, hn, rfl⟩ := may_nat t1
    obtain ⟨⟨p1, p2⟩, ⟨p3, p4⟩, ⟨p5, p6⟩, ⟨p7, p8⟩⟩ := may_parts t1
    have HD := Lib.hid (show decide (wrap64 (4 + 2 * n.ge.wal + wrap64 (2 * n.ge.st * (n.ge.k + n.ge.m))) ≤ 4096) = true by
      have b1 := hn.tot2
      have b2 := hn.t2
      have e0 : n.ge.st * (n.ge.k + n.ge.m) = ((n.S * n.q : Nat) : Int) := by unfold Gn.q; rw [Int.natCast_mul, Int.natCast_add]; rfl
      rw [Int.mul_assoc, e0, IntWalk.wrap64_in (2 * ((n.S * n.q : Nat) : Int)) ⟨by omega, by omega⟩, IntWalk.wrap64_in _ ⟨by omega, by omega⟩]
      exact decide_eq_true (by omega))
    clear hn t1
    go_enter Tryz.func26, Tryz.ntmps26
    go_wp2_with ((with_reducible refine wpList_isOp (.box 23 (.tmp 0)) rfl ?_); refine wpList_boxing _ w1 rfl 23 (.tmp 0) rfl (geC n.ge) H rfl (by exact HR.out.sz) (by exact HR.out.al) ?_)
    go_ret
    exact ⟨ret_bool HD.out, HR.out.ch⟩
/-! ### Groups, Bears -/
/-! ### Ints -/
def eqI (n m : Nat) (q r : Nat → Int) : Bool := decide (n = m ∧ ∀ c, c < n → q c = r c)
end Go.Proofs.YtlbdopcchoklhaaGreat
namespace Go.Proofs.YtlbdopcchoklhaaGreat
open Go.RowKit
set_option linter.unusedVariables false
set_option maxRecDepth 100000
set_option linter.unusedSimpArgs false

/-- Which stripes there are. -/
def frsB (g : Ge) (a s : Int) : Bool := mayG g && (decide (0 ≤ a ∧ a ≤ 1) && decide (0 ≤ s ∧ s < g.st))
/-- The first sector of a stripe. -/
def frsN (n : Gn) (a s : Nat) : Nat := n.fs + (a * n.S + s) * n.q
theorem frsN_sec (n : Gn) (hn : n.Ok) (a s i : Nat) : frsN n a s + i = n.sec (n.fg + (a * n.S + s)) i := by
  have hw := hn.w1
  unfold frsN Gn.sec
  rw [if_neg (by unfold Gn.fg; omega), if_neg (by omega), Nat.add_sub_cancel_left]
theorem frsN_lt {n : Gn} (hn : n.Ok) {a s i : Nat} (ha : a ≤ 1) (hs : s < n.S) (hi : i < n.q) : frsN n a s + i < n.tot := by
  have h1 := Gn.stripe_lt (n := n) (s := a * n.S + s) (p := i) (by
    rcases Nat.le_one_iff_eq_zero_or_eq_one.1 ha with rfl | rfl <;> omega) hi
  unfold frsN Gn.tot
  omega
theorem frsB_nat {g : Ge} {a s : Int} (h : frsB g a s = true) : ∃ (n : Gn) (x y : Nat), n.Ok ∧ g = n.ge ∧ a = (x : Int) ∧ s = (y : Int) ∧ x ≤ 1 ∧ y < n.S := by
  unfold frsB at h
  simp only [Bool.and_eq_true, decide_eq_true_eq] at h
  obtain ⟨h1, ⟨h2, h3⟩, h4, h5⟩ := h
  obtain ⟨n, hn, rfl⟩ := may_nat h1
  have h5 : s < (n.S : Int) := h5
  exact ⟨n, a.toNat, s.toNat, hn, rfl, by omega, by omega, by omega, by omega⟩
theorem frsB_yes {n : Gn} (hn : n.Ok) {a s : Nat} (ha : a ≤ 1) (hs : s < n.S) : frsB n.ge a s = true := by
  unfold frsB
  have h5 : (s : Int) < (n.S : Int) := by omega
  rw [ok_may hn, decide_eq_true (show 0 ≤ (a : Int) ∧ (a : Int) ≤ 1 by omega), decide_eq_true (show 0 ≤ (s : Int) ∧ (s : Int) < n.ge.st from ⟨by omega, h5⟩)]
  rfl
theorem frsB_no {g : Ge} {a s : Int} (h : frsB g a s = false) : mayG g = false ∨ (mayG g = true ∧ (a < 0 ∨ (0 ≤ a ∧ (1 < a ∨ (a ≤ 1 ∧ (s < 0 ∨ (0 ≤ s ∧ g.st ≤ s))))))) := by
  cases hm : mayG g with
  | false => exact Or.inl rfl
  | true =>
    refine Or.inr ⟨rfl, ?_⟩
    unfold frsB at h
    rw [hm, Bool.true_and] at h
    by_cases q1 : a < 0
    · exact Or.inl q1
    by_cases q2 : 1 < a
    · exact Or.inr ⟨by omega, Or.inl q2⟩
    rw [decide_eq_true (show 0 ≤ a ∧ a ≤ 1 by omega), Bool.true_and] at h
    have h := of_decide_eq_false h
    by_cases q3 : s < 0
    · exact Or.inr ⟨by omega, Or.inr ⟨by omega, Or.inl q3⟩⟩
    · exact Or.inr ⟨by omega, Or.inr ⟨by omega, Or.inr ⟨by omega, by omega⟩⟩⟩
end Go.Proofs.YtlbdopcchoklhaaGreat
namespace Go.Proofs.YtlbdopcchoklhaaGreat
open Go.RowKit
set_option linter.unusedVariables false
set_option maxRecDepth 100000

/-! ### a group, as it is handed on -/
def grC (s b : Int) (F : Value) : Array Value := #[.int .i64 s, .int .i64 b, F]
theorem zero_gr (w : World) : (zeroValue 99).run Tryz.prog w = .ok (.agg (grC 0 0 .nilFunc)) w := by kernel_rfl
theorem size_gr : (Tryz.prog.info? 99).map (·.size) = some 3 := by kernel_rfl
theorem results_gr (tmps : Array Value) (w : World) (H : Nat) (s b : Int) (F : Value) (hp : tmps.getD 4 undef = .pointer (some ⟨H, 0, none⟩)) (hg : w.heap[H]? = some (.cells (grC s b F) 99 (0, 0))) :
    (results Tryz.f58 tmps).run Tryz.prog w = .ok (.agg (grC s b F)) w :=
  results_cell_row Tryz.results58 _ _ H 99 (grC s b F) (0, 0) _ hp hg Tryz.underlying99 rfl size_gr
/-- A group's variable, new, with nothing in it. -/
structure GrZ (w w1 : World) (H : Nat) : Prop where
  al : w.alloc (.cells (grC 0 0 .nilFunc) 99) = w1
  sz : w.heap.size = H
  cx : w1.heap[H]? = some (.cells (grC 0 0 .nilFunc) 99 (0, 0))
  ch : Ch (fun _ => False) w w1
theorem grZ (w : World) : ∃ w1 H, GrZ w w1 H := ⟨_, _, rfl, rfl, heap_alloc_new w _, (Ch.refl _ w).alloc _ _⟩
theorem GrZ.at {w1 w2 W : World} {H : Nat} (h : GrZ w1 w2 H) (k : Ch (fun _ => False) w2 W) : W.heap[H]? = some (.cells (grC 0 0 .nilFunc) 99 (0, 0)) := (k.block H (blk_lt h.cx) (fun f => f)).trans h.cx
theorem store_gr {W : World} {H : Nat} {s b s2 b2 : Int} {F F2 : Value} (h : W.heap[H]? = some (.cells (grC s b F) 99 (0, 0))) (hF : F2.oneCell' = true) :
    (storeVar 99 ⟨H, 0, none⟩ (.agg (grC s2 b2 F2))).run Tryz.prog W = .ok () (W.setRow H (grC s2 b2 F2)) :=
  run_storeVar_row W H _ _ (grC s b F) (grC s2 b2 F2) h size_gr rfl (by unfold grC; simpa [Value.oneCell'] using hF)
/-- What is left of the world behind the last store. -/
theorem done_gr {w W : World} {H : Nat} {s b s2 b2 : Int} {F F2 : Value} (hc : Ch (fun _ => False) w W) (h : W.heap[H]? = some (.cells (grC s b F) 99 (0, 0))) (hl : w.heap.size ≤ H) :
    (W.setRow H (grC s2 b2 F2)).heap[H]? = some (.cells (grC s2 b2 F2) 99 (0, 0)) ∧ Ch (fun _ => False) w (W.setRow H (grC s2 b2 F2)) :=
  ⟨setRow_heap W H (grC s b F) _ _ (0, 0) h, hc.setRow (Or.inr hl) _⟩
set_option maxHeartbeats 1600000 in
set_option maxRecDepth 100000 in
theorem groupOf_none (g : Ge) (i : Int) (h : inG g i = false) (w : World) : Calls Tryz.prog 58 #[.agg (geC g), .int .i64 i] w (Ans (.agg (grC 0 0 .nilFunc)) w) := by
  obtain ⟨w1, H, hR⟩ := geR w g
  obtain ⟨w2, H2, hZ⟩ := grZ w1
  have HR := Lib.hid hR
  have HZ := Lib.hid hZ
  have HX := Lib.hid (hR.x.gr hZ.ch)
  have hx2 := hR.x.gr hZ.ch
  obtain ⟨x0, x1, x2, x3⟩ := hx2
  have HC2 := Lib.hid (hR.ch.trans hZ.ch)
  have HL := Lib.hid (show w.heap.size ≤ H2 by rw [← hZ.sz]; exact hR.ch.size)
  have h1 := of_decide_eq_false h
  obtain ⟨N, hN⟩ : ∃ N, N = grpG g := ⟨_, rfl⟩
  have HN := Lib.hid hN
  rw [← hN] at h1
  clear hN h hR hZ
  by_cases q : i < 0
  · have t2 : decide (i < 0) = true := decide_eq_true q
    clear h1 q
    have HROW := Lib.hid (HZ.out.at (Ch.refl _ w2))
    go_enter Tryz.func58, Tryz.ntmps58
    go_wp2_with (first | ((with_reducible refine wpList_isOp (.box 23 (.tmp 0)) rfl ?_); refine wpList_boxing _ w1 rfl 23 (.tmp 0) rfl (geC g) H rfl (by exact HR.out.sz) (by exact HR.out.al) ?_) | ((with_reducible refine wpList_isOp (.alloc 99) rfl ?_); refine wpList_making _ w2 rfl 99 rfl (grC 0 0 .nilFunc) H2 (zero_gr _) (by exact HZ.out.sz) (by exact HZ.out.al) ?_) | ((with_reducible refine wpList_isOp (.store 99 (.tmp 4) (.tmp 16)) rfl ?_); refine wpList_storing _ _ rfl 99 (.tmp 4) (.tmp 16) rfl (.agg (grC 0 0 .nilFunc)) ⟨H2, 0, none⟩ rfl rfl (store_gr HROW.out rfl) ?_))
    have hd := done_gr (s2 := 0) (b2 := 0) (F2 := .nilFunc) HC2.out HROW.out HL.out
    refine bodyPost_ret (v := .agg (grC 0 0 .nilFunc)) (results_gr _ _ H2 _ _ _ rfl hd.1) rfl ?_
    exact ⟨rfl, hd.2⟩
  · have t2 : decide (i < 0) = false := decide_eq_false q
    have t3 : decide (N ≤ i) = true := decide_eq_true (by omega)
    clear h1 q
    go_enter Tryz.func58, Tryz.ntmps58
    go_wp2_with (first | ((with_reducible refine wpList_isOp (.box 23 (.tmp 0)) rfl ?_); refine wpList_boxing _ w1 rfl 23 (.tmp 0) rfl (geC g) H rfl (by exact HR.out.sz) (by exact HR.out.al) ?_) | ((with_reducible refine wpList_isOp (.alloc 99) rfl ?_); refine wpList_making _ w2 rfl 99 rfl (grC 0 0 .nilFunc) H2 (zero_gr _) (by exact HZ.out.sz) (by exact HZ.out.al) ?_) | (go_at_call 31; refine (groups_any g _).mono ?_; rintro e w3 ⟨rfl, hc3⟩; rw [← HN.out]; have HROW := Lib.hid (HZ.out.at hc3)) | ((with_reducible refine wpList_isOp (.store 99 (.tmp 4) (.tmp 16)) rfl ?_); refine wpList_storing _ _ rfl 99 (.tmp 4) (.tmp 16) rfl (.agg (grC 0 0 .nilFunc)) ⟨H2, 0, none⟩ rfl rfl (store_gr HROW.out rfl) ?_))
    have hd := done_gr (s2 := 0) (b2 := 0) (F2 := .nilFunc) (HC2.out.trans hc3) HROW.out HL.out
    refine bodyPost_ret (v := .agg (grC 0 0 .nilFunc)) (results_gr _ _ H2 _ _ _ rfl hd.1) rfl ?_
    exact ⟨rfl, hd.2⟩
set_option maxHeartbeats 1600000 in
set_option maxRecDepth 100000 in
theorem groupOf_copies (n : Gn) (hn : n.Ok) (w : World) : Calls Tryz.prog 58 #[.agg (geC n.ge), .int .i64 0] w (Ans (.agg (grC 4 3 (.func (.func 98) #[] #[]))) w) := by
  obtain ⟨w1, H, hR⟩ := geR w n.ge
  obtain ⟨w2, H2, hZ⟩ := grZ w1
  have HR := Lib.hid hR
  have HZ := Lib.hid hZ
  have HX := Lib.hid (hR.x.gr hZ.ch)
  have hx2 := hR.x.gr hZ.ch
  obtain ⟨x0, x1, x2, x3⟩ := hx2
  have HC2 := Lib.hid (hR.ch.trans hZ.ch)
  have HL := Lib.hid (show w.heap.size ≤ H2 by rw [← hZ.sz]; exact hR.ch.size)
  have HN := Lib.hid (grpG_ok hn)
  obtain ⟨G, hG⟩ : ∃ G, G = n.grp := ⟨_, rfl⟩
  have HGG := Lib.hid hG
  have t4 : ¬ G = 0 := by rw [hG]; unfold Gn.grp Gn.fg; omega
  clear hG hR hZ hn
  go_enter Tryz.func58, Tryz.ntmps58
  go_wp2_with (first | ((with_reducible refine wpList_isOp (.box 23 (.tmp 0)) rfl ?_); refine wpList_boxing _ w1 rfl 23 (.tmp 0) rfl (geC n.ge) H rfl (by exact HR.out.sz) (by exact HR.out.al) ?_) | ((with_reducible refine wpList_isOp (.alloc 99) rfl ?_); refine wpList_making _ w2 rfl 99 rfl (grC 0 0 .nilFunc) H2 (zero_gr _) (by exact HZ.out.sz) (by exact HZ.out.al) ?_) | (go_at_call 31; refine (groups_any n.ge _).mono ?_; rintro e w3 ⟨rfl, hc3⟩; rw [HN.out, ← HGG.out]; have HROW := Lib.hid (HZ.out.at hc3)) | ((with_reducible refine wpList_isOp (.store 99 (.tmp 4) (.tmp 20)) rfl ?_); refine wpList_storing _ _ rfl 99 (.tmp 4) (.tmp 20) rfl (.agg (grC 4 3 (.func (.func 98) #[] #[]))) ⟨H2, 0, none⟩ rfl rfl (store_gr HROW.out rfl) ?_))
  have hd := done_gr (s2 := 4) (b2 := 3) (F2 := (.func (.func 98) #[] #[])) (HC2.out.trans hc3) HROW.out HL.out
  refine bodyPost_ret (v := .agg (grC 4 3 (.func (.func 98) #[] #[]))) (results_gr _ _ H2 _ _ _ rfl hd.1) rfl ?_
  exact ⟨rfl, hd.2⟩
set_option maxHeartbeats 1600000 in
set_option maxRecDepth 100000 in
theorem groupOf_slot (n : Gn) (hn : n.Ok) (j : Nat) (hj : j < n.grp) (h0 : ¬ j = 0) (h1 : j < n.fg) (w : World) : Calls Tryz.prog 58 #[.agg (geC n.ge), .int .i64 (j : Int)] w fun e w' => ∃ B D, e = .returned (.agg (grC 2 1 (.func (.func 99) #[] #[.pointer (some ⟨B, 0, none⟩), .pointer (some ⟨D, 0, none⟩)]))) ∧ GeX w' B n.ge ∧ w'.cell? ⟨D, 0, none⟩ = some (.int .i64 ((j : Int) - 1)) ∧ Ch (fun _ => False) w w' := by
  obtain ⟨w1, H, hR⟩ := geR w n.ge
  obtain ⟨w2, H2, hZ⟩ := grZ w1
  have HR := Lib.hid hR
  have HZ := Lib.hid hZ
  have HX := Lib.hid (hR.x.gr hZ.ch)
  have hx2 := hR.x.gr hZ.ch
  obtain ⟨x0, x1, x2, x3⟩ := hx2
  have HC2 := Lib.hid (hR.ch.trans hZ.ch)
  have HL := Lib.hid (show w.heap.size ≤ H2 by rw [← hZ.sz]; exact hR.ch.size)
  have HN := Lib.hid (grpG_ok hn)
  have HK := Lib.hid hn
  obtain ⟨G, hG⟩ : ∃ G, G = n.grp := ⟨_, rfl⟩
  have HGG := Lib.hid hG
  rw [← hG] at hj
  have t2 : decide (G ≤ j) = false := decide_eq_false (by omega)
  have hb : j ≤ 577 := by have := hn.grp2; omega
  have hHH : H ≠ H2 := by have := blk_lt hR.cx; rw [← hZ.sz]; omega
  have hH2 := blk_lt hZ.cx
  have HHH := Lib.hid hHH
  have HH2 := Lib.hid hH2
  have hfb : n.fg ≤ 513 := by have := hn.w2; unfold Gn.fg; omega
  have t3 : ¬ j = 0 := h0
  have t4 : decide (j < 1) = false := decide_eq_false (by omega)
  obtain ⟨fg, hfg⟩ : ∃ fg, fg = n.fg := ⟨_, rfl⟩
  have HFG := Lib.hid hfg
  rw [← hfg] at h1 hfb
  have t5 : decide (j < fg) = true := decide_eq_true h1
  have t6 : ((j : Int) - 1) < 9223372036854775807 := by omega
  have t7 : ¬ (j : Int) < 1 := by omega
  clear hG hR hZ hn hj h0 h1 hfg hHH hH2 t6
  go_enter Tryz.func58, Tryz.ntmps58
  go_wp2_with (first | ((with_reducible refine wpList_isOp (.box 23 (.tmp 0)) rfl ?_); refine wpList_boxing _ w1 rfl 23 (.tmp 0) rfl (geC n.ge) H rfl (by exact HR.out.sz) (by exact HR.out.al) ?_) | ((with_reducible refine wpList_isOp (.alloc 99) rfl ?_); refine wpList_making _ w2 rfl 99 rfl (grC 0 0 .nilFunc) H2 (zero_gr _) (by exact HZ.out.sz) (by exact HZ.out.al) ?_) | (go_at_call 31; refine (groups_any n.ge _).mono ?_; rintro e w3 ⟨rfl, hc3⟩; rw [HN.out, ← HGG.out]; have hx3 := HX.out.gr hc3; obtain ⟨y0, y1, y2, y3⟩ := hx3) | (go_at_call 59; refine (firstGroup_any n HK.out _).mono ?_; rintro e w4 ⟨rfl, hc4⟩; rw [← HFG.out]; have hk5 := (hc3.trans hc4).alloc #[.int .i64 ((j : Int) - 1)] /-t-/3; have HROW := Lib.hid (HZ.out.at hk5)) | ((with_reducible refine wpList_isOp (.store 99 (.tmp 4) (.tmp 29)) rfl ?_); refine wpList_storing _ _ rfl 99 (.tmp 4) (.tmp 29) rfl (.agg (grC 2 1 (.func (.func 99) #[] #[.pointer (some ⟨H, 0, none⟩), .pointer (some ⟨w4.heap.size, 0, none⟩)]))) ⟨H2, 0, none⟩ rfl rfl (store_gr HROW.out rfl) ?_))
  have kS := (Ch.refl (fun i => i = H2) (w4.alloc (.cells #[.int .i64 ((j : Int) - 1)] /-t-/3))).setRow (g := H2) (Or.inl rfl) (grC 2 1 (.func (.func 99) #[] #[.pointer (some ⟨H, 0, none⟩), .pointer (some ⟨w4.heap.size, 0, none⟩)]))
  have hcell : (w4.alloc (.cells #[.int .i64 ((j : Int) - 1)] /-t-/3)).cell? ⟨w4.heap.size, 0, none⟩ = some (.int .i64 ((j : Int) - 1)) := by
    rw [blk_cell (heap_alloc_new w4 _)]
    rfl
  have hd := done_gr (s2 := 2) (b2 := 1) (F2 := (.func (.func 99) #[] #[.pointer (some ⟨H, 0, none⟩), .pointer (some ⟨w4.heap.size, 0, none⟩)])) (HC2.out.trans hk5) HROW.out HL.out
  refine bodyPost_ret (v := .agg (grC 2 1 (.func (.func 99) #[] #[.pointer (some ⟨H, 0, none⟩), .pointer (some ⟨w4.heap.size, 0, none⟩)]))) (results_gr _ _ H2 _ _ _ rfl hd.1) rfl ?_
  exact ⟨_, _, rfl, (HX.out.gr hk5).off kS HHH.out, kS.cell hcell (fun e => by have := HH2.out; have := (hc3.trans hc4).size; simp only at e; omega), hd.2⟩
set_option maxHeartbeats 3200000 in
set_option maxRecDepth 100000 in
theorem groupOf_stripe (n : Gn) (hn : n.Ok) (j : Nat) (hj : j < n.grp) (h1 : ¬ j < n.fg) (w : World) : Calls Tryz.prog 58 #[.agg (geC n.ge), .int .i64 (j : Int)] w fun e w' => ∃ B D, e = .returned (.agg (grC (n.q : Int) (n.M : Int) (.func (.func 100) #[] #[.pointer (some ⟨B, 0, none⟩), .pointer (some ⟨D, 0, none⟩)]))) ∧ GeX w' B n.ge ∧ w'.cell? ⟨D, 0, none⟩ = some (.int .i64 ((j : Int) - (n.fg : Int))) ∧ Ch (fun _ => False) w w' := by
  obtain ⟨w1, H, hR⟩ := geR w n.ge
  obtain ⟨w2, H2, hZ⟩ := grZ w1
  have HR := Lib.hid hR
  have HZ := Lib.hid hZ
  have HX := Lib.hid (hR.x.gr hZ.ch)
  have hx2 := hR.x.gr hZ.ch
  obtain ⟨x0, x1, x2, x3⟩ := hx2
  have HC2 := Lib.hid (hR.ch.trans hZ.ch)
  have HL := Lib.hid (show w.heap.size ≤ H2 by rw [← hZ.sz]; exact hR.ch.size)
  have HN := Lib.hid (grpG_ok hn)
  have HK := Lib.hid hn
  obtain ⟨G, hG⟩ : ∃ G, G = n.grp := ⟨_, rfl⟩
  have HGG := Lib.hid hG
  rw [← hG] at hj
  have t2 : decide (G ≤ j) = false := decide_eq_false (by omega)
  have hb : j ≤ 577 := by have := hn.grp2; omega
  have hHH : H ≠ H2 := by have := blk_lt hR.cx; rw [← hZ.sz]; omega
  have hH2 := blk_lt hZ.cx
  have HHH := Lib.hid hHH
  have HH2 := Lib.hid hH2
  have hfb : n.fg ≤ 513 := by have := hn.w2; unfold Gn.fg; omega
  have h0 : ¬ j = 0 := fun e => h1 (by rw [e]; unfold Gn.fg; omega)
  have t3 : ¬ j = 0 := h0
  have t4 : decide (j < 1) = false := decide_eq_false (by omega)
  obtain ⟨fg, hfg⟩ : ∃ fg, fg = n.fg := ⟨_, rfl⟩
  have HFG := Lib.hid hfg
  rw [← hfg] at h1 hfb ⊢
  have t5 : decide (j < fg) = false := decide_eq_false h1
  have t7 : ¬ (j : Int) < 1 := by omega
  have HM := Lib.hid (show n.ge.m = (n.M : Int) from rfl)
  clear hG hR hZ hn hj h0 h1 hfg hHH hH2
  go_enter Tryz.func58, Tryz.ntmps58
  go_upto_region 8 with (first | ((with_reducible refine wpList_isOp (.box 23 (.tmp 0)) rfl ?_); refine wpList_boxing _ w1 rfl 23 (.tmp 0) rfl (geC n.ge) H rfl (by exact HR.out.sz) (by exact HR.out.al) ?_) | ((with_reducible refine wpList_isOp (.alloc 99) rfl ?_); refine wpList_making _ w2 rfl 99 rfl (grC 0 0 .nilFunc) H2 (zero_gr _) (by exact HZ.out.sz) (by exact HZ.out.al) ?_) | (go_at_call 31; refine (groups_any n.ge _).mono ?_; rintro e w3 ⟨rfl, hc3⟩; rw [HN.out, ← HGG.out]; have hx3 := HX.out.gr hc3; obtain ⟨y0, y1, y2, y3⟩ := hx3) | (go_at_call 59; refine (firstGroup_any n HK.out _).mono ?_; rintro e w4 ⟨rfl, hc4⟩; rw [← HFG.out]; have hx4 := (GeX.mk y0 y1 y2 y3).gr hc4; obtain ⟨y0, y1, y2, y3⟩ := hx4))
  have hkc := (hc3.trans hc4)
  clear hc3 hc4
  go_wp2_with (go_at_call 59; refine (firstGroup_any n HK.out _).mono ?_; rintro e w4 ⟨rfl, hc4⟩; rw [← HFG.out]; have hx4 := (GeX.mk y0 y1 y2 y3).gr hc4; obtain ⟨y0, y1, y2, y3⟩ := hx4)
  have hk5 := (hkc.trans hc4).alloc #[.int .i64 ((j : Int) - (fg : Int))] /-t-/3
  have HROW := Lib.hid (HZ.out.at hk5)
  have HX5 := Lib.hid (HX.out.gr hk5)
  have hcell : (w4.alloc (.cells #[.int .i64 ((j : Int) - (fg : Int))] /-t-/3)).cell? ⟨w4.heap.size, 0, none⟩ = some (.int .i64 ((j : Int) - (fg : Int))) := by
    rw [blk_cell (heap_alloc_new w4 _)]
    rfl
  have HDC := Lib.hid hcell
  have HDL := Lib.hid (show w4.heap.size < (w4.alloc (.cells #[.int .i64 ((j : Int) - (fg : Int))] /-t-/3)).heap.size by simp)
  have HDH := Lib.hid (show w4.heap.size ≠ H2 by have := HH2.out; have := (hkc.trans hc4).size; omega)
  have HK5 := Lib.hid hk5
  obtain ⟨D, hD⟩ : ∃ D, D = w4.heap.size := ⟨_, rfl⟩
  obtain ⟨w5, hw5⟩ : ∃ w5, w5 = w4.alloc (.cells #[.int .i64 ((j : Int) - (fg : Int))] /-t-/3) := ⟨_, rfl⟩
  rw [← hw5] at HROW HX5 HDC HDL HK5 ⊢
  rw [← hD] at HDC HDL HDH ⊢
  have HWD : Hid (∃ wd, wd = w5.drew) := Lib.hid ⟨_, rfl⟩
  obtain ⟨wd, hwd⟩ := HWD.out
  have hcd : Ch (fun _ => False) w5 wd := by rw [hwd]; exact (Ch.refl _ w5).drew
  have HXD := Lib.hid (HX5.out.gr hcd)
  have HROWD := Lib.hid ((hcd.block H2 (blk_lt HROW.out) (fun f => f)).trans HROW.out)
  have HDCD := Lib.hid (hcd.cell HDC.out (fun f => f))
  have HKD := Lib.hid (HC2.out.trans (HK5.out.trans hcd))
  clear hw5 hD hk5 hcell y0 y1 y2 y3 hkc hc4 hcd HWD x0 x1 x2 x3
  refine wp_region_held (S := fun W' => GeX W' H n.ge) (by kernel_rfl) ?_
  change wpAnyH _ _ _ _ _ _ _ _ (World.drew _)
  rw [← hwd]
  clear hwd
  have HS : (fun W' : World => GeX W' H n.ge) wd := HXD.out
  refine wpAnyH_take (i := 0) (oi := ⟨some 34, .load 23 (.tmp 2), _, _, _, none⟩) (v := .agg (geC n.ge)) rfl (by kernel_rfl) (by kernel_rfl) (by kernel_rfl) (fun _ _ _ h => h) (Or.inl ⟨by rfl, fun w' hS => ?_⟩) HS ?_
  · obtain ⟨s0, s1, s2, s3⟩ := hS
    go_simp
    rfl
  simp only [Act.put, List.setIfInBounds_toArray, List.set_cons_zero, List.set_cons_succ]
  refine wpAnyH_take (i := 2) (oi := ⟨some 36, .fieldAddr 23 (.tmp 2) 3, _, _, _, none⟩) (v := .pointer (some ⟨H, 3, none⟩)) rfl (by kernel_rfl) (by kernel_rfl) (by kernel_rfl) (fun _ _ _ h => h) (Or.inl ⟨by rfl, fun w' hS => ?_⟩) HS ?_
  · clear hS; go_simp
  simp only [Act.put, List.setIfInBounds_toArray, List.set_cons_zero, List.set_cons_succ]
  refine wpAnyH_take (i := 3) (oi := ⟨some 37, .load /-t-/3 (.tmp 36), _, _, _, none⟩) (v := .int .i64 (n.M : Int)) rfl (by kernel_rfl) (by kernel_rfl) (by kernel_rfl) (fun _ _ _ h => h) (Or.inl ⟨by rfl, fun w' hS => ?_⟩) HS ?_
  · obtain ⟨s0, s1, s2, s3⟩ := hS
    rw [HM.out] at s3
    go_simp
  simp only [Act.put, List.setIfInBounds_toArray, List.set_cons_zero, List.set_cons_succ]
  refine wpAnyH_take (i := 4) (oi := ⟨some 38, .makeFunc (Fn.func 100) #[] #[.tmp 2, .tmp 6], _, _, _, none⟩) (v := (.func (.func 100) #[] #[.pointer (some ⟨H, 0, none⟩), .pointer (some ⟨D, 0, none⟩)])) rfl (by kernel_rfl) (by kernel_rfl) (by kernel_rfl) (fun _ _ _ h => h) (Or.inl ⟨by rfl, fun w' hS => ?_⟩) HS ?_
  · clear hS; go_simp
  simp only [Act.put, List.setIfInBounds_toArray, List.set_cons_zero, List.set_cons_succ]
  refine wpAnyH_ready (rs := [1]) (by kernel_rfl) (by simp) ?_
  refine AllReadyH.cons rfl (fun K hK => ?_) AllReadyH.nil
  go_simp
  refine (shares_any n HK.out _).mono ?_
  rintro e w6 ⟨rfl, hc6⟩
  have HX6 := Lib.hid (HXD.out.gr hc6)
  have HROW6 := Lib.hid ((hc6.block H2 (blk_lt HROWD.out) (fun f => f)).trans HROWD.out)
  have HDC6 := Lib.hid (hc6.cell HDCD.out (fun f => f))
  have HK6 := Lib.hid (HKD.out.trans hc6)
  clear hc6
  dsimp only
  refine hK.out _ _ HX6.out (fun _ => ?_)
  clear hK K
  refine wpAnyH_take (i := 5) (oi := ⟨some 39, .build 99 #[(0, .tmp 35), (1, .tmp 37), (2, .tmp 38)], _, _, _, none⟩) (v := .agg (grC (n.q : Int) (n.M : Int) (.func (.func 100) #[] #[.pointer (some ⟨H, 0, none⟩), .pointer (some ⟨D, 0, none⟩)]))) rfl (by kernel_rfl) (by kernel_rfl) (by kernel_rfl) (fun _ _ _ h => h) (Or.inl ⟨by rfl, fun w' hS => ?_⟩) HX6.out ?_
  · clear hS
    go_simp
    rfl
  simp only [Act.put, List.setIfInBounds_toArray, List.set_cons_zero, List.set_cons_succ]
  refine wpAnyH_ready (rs := [6]) (by kernel_rfl) (by simp) ?_
  refine AllReadyH.cons rfl (fun K hK => ?_) AllReadyH.nil
  refine step_storing (o := ⟨none, .store 99 (.tmp 4) (.tmp 39), _, _, _, none⟩) _ rfl 99 (.tmp 4) (.tmp 39) rfl (.agg (grC (n.q : Int) (n.M : Int) (.func (.func 100) #[] #[.pointer (some ⟨H, 0, none⟩), .pointer (some ⟨D, 0, none⟩)]))) ⟨H2, 0, none⟩ rfl rfl (store_gr HROW6.out rfl) ?_
  have kS := (Ch.refl (fun i => i = H2) w6).setRow (g := H2) (Or.inl rfl) (grC (n.q : Int) (n.M : Int) (.func (.func 100) #[] #[.pointer (some ⟨H, 0, none⟩), .pointer (some ⟨D, 0, none⟩)]))
  have HXE := Lib.hid (HX6.out.off kS HHH.out)
  have hd := done_gr (s2 := (n.q : Int)) (b2 := (n.M : Int)) (F2 := (.func (.func 100) #[] #[.pointer (some ⟨H, 0, none⟩), .pointer (some ⟨D, 0, none⟩)])) HK6.out HROW6.out HL.out
  have HDE := Lib.hid (kS.cell HDC6.out HDH.out)
  refine hK.out _ _ HXE.out (fun _ => ?_)
  clear hK K
  refine wpAnyH_done (by kernel_rfl) ?_ _
  go_wp2
  refine bodyPost_ret (v := .agg (grC (n.q : Int) (n.M : Int) (.func (.func 100) #[] #[.pointer (some ⟨H, 0, none⟩), .pointer (some ⟨D, 0, none⟩)]))) (results_gr _ _ H2 _ _ _ rfl hd.1) rfl ?_
  exact ⟨_, _, rfl, HXE.out, HDE.out, hd.2⟩
end Go.Proofs.YtlbdopcchoklhaaGreat
