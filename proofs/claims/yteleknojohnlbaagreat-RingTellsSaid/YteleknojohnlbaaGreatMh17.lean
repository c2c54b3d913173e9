/-
  block.read and Open, walked. Rows of rows of bytes: to be read, and of one's own. (Cut out of sup's texts.). Rows of rows of bytes that are handed in, opened. Rows of structs that are handed in, opened: each element by its cells. Rows of ints in memory: rows that are read, rows of one's own, a number behind them; rows that are handed in, opened.
-/
import Derived.Test.YteleknojohnlbaaGreatMh16
import Derived.Laws.ResultCell
import Derived.StillTailTactics
import Derived.Test.YteleknojohnlbaaGreatMh12
import Derived.Deep.RegionHeld3
import Derived.Test.YteleknojohnlbaaGreatMh1
import Derived.Test.YteleknojohnlbaaGreatMh6
import Derived.Deep.Slices
import Derived.Deep.Fields
import Derived.ChangeSame
import Derived.Test.YteleknojohnlbaaGreatMh2
namespace Go.Proofs.YteleknojohnlbaaGreat
open Go.RowKit
set_option linter.unusedVariables false
set_option maxRecDepth 100000

/-! ### a block in a variable -/
theorem bkC_one {b : Bk} (h : ∃ A n C, b.V = .slice A n C) : (bkC b).all (·.oneCell') = true := by
  obtain ⟨A, n, C, h⟩ := h
  unfold bkC
  rw [h]
  simp [Value.oneCell']
theorem info_bk (b : Bk) : (Tryz.prog.info? 80).map (·.size) = some (bkC b).size := by
  show _ = some 6
  kernel_rfl
theorem zero_bk (w : World) : (zeroValue 80).run Tryz.prog w = .ok (.agg (bkC bk0)) w := Tryz.zeroValue80 w
/-- A zero block in a variable of its own. -/
structure ZeR (w w1 : World) (H : Nat) : Prop where
  al : w.alloc (.cells (bkC bk0) 80) = w1
  sz : w.heap.size = H
  cx : w1.heap[H]? = some (.cells (bkC bk0) 80 (0, 0))
  ch : Ch (fun _ => False) w w1
theorem zeR (w : World) : ∃ w1 H, ZeR w w1 H := ⟨_, _, rfl, rfl, heap_alloc_new w _, (Ch.refl _ w).alloc _ _⟩
/-- A block laid over what is in a variable. -/
theorem store_bk {w : World} {H : Nat} {a b : Bk} (h : w.heap[H]? = some (.cells (bkC a) 80 (0, 0))) (hb : ∃ A n C, b.V = .slice A n C) :
    (storeVar 80 ⟨H, 0, none⟩ (.agg (bkC b))).run Tryz.prog w = .ok () (w.setRow H (bkC b)) :=
  run_storeVar_row w H _ _ (bkC a) (bkC b) h (info_bk b) rfl (bkC_one hb)
structure StR (w w1 : World) (H : Nat) (b : Bk) : Prop where
  st : (storeVar 80 ⟨H, 0, none⟩ (.agg (bkC b))).run Tryz.prog w = .ok () w1
  cx : w1.heap[H]? = some (.cells (bkC b) 80 (0, 0))
  ch : Ch (fun j => j = H) w w1
theorem stR {w : World} {H : Nat} {a b : Bk} (h : w.heap[H]? = some (.cells (bkC a) 80 (0, 0))) (hb : ∃ A n C, b.V = .slice A n C) : ∃ w1, StR w w1 H b :=
  ⟨_, store_bk h hb, setRow_heap w H (bkC a) _ _ (0, 0) h, (Ch.refl (fun j => j = H) w).setRow (g := H) (Or.inl rfl) _⟩
theorem Ch.over {w0 w w1 : World} {H : Nat} (h : Ch (fun _ => False) w0 w) (k : Ch (fun j => j = H) w w1) (hH : w0.heap.size ≤ H) : Ch (fun _ => False) w0 w1 :=
  h.new (k.mono fun i _ e => by
    subst e
    exact hH)
theorem results_bk {fn : Func} {p u : Tmp} (h : fn.results = #[.cell p 80, .tmp u]) (tmps : Array Value) (w : World) (H : Nat) (b : Bk) (hp : tmps.getD p undef = .pointer (some ⟨H, 0, none⟩)) (hg : w.heap[H]? = some (.cells (bkC b) 80 (0, 0))) :
    (results fn tmps).run Tryz.prog w = .ok (.tuple #[.agg (bkC b), tmps.getD u undef]) w := by
  rw [results_cell_tmp h, hp]
  simp [asAddr, load_bk hg]
/-! ### read -/
def rdLen (z : Nat → Nat) : Nat := if blkLong z ≤ 228 then blkLong z else 228
def bodyZ (z : Nat → Nat) (c : Nat) : Nat := z (24 + c)
def ReadBP (z : Nat → Nat) (w : World) (e : Ending) (w' : World) : Prop :=
  ∃ A C, e = .returned (.agg (bkC (readB (.slice A (rdLen z) C) z))) ∧ w'.ownsRow w.heap.size /-t-/5 1 (.slice A (rdLen z) C) (rdLen z) (bytesL (rdLen z) (bodyZ z)) ∧ Ch (fun _ => False) w w'
theorem readL_le (z : Nat → Nat) : rdLen z ≤ 228 := by unfold rdLen; split <;> omega
theorem own_slice {w : World} {base n : Nat} {v : Value} {xs : List Value} (h : w.ownsRow base /-t-/5 1 v n xs) : ∃ A C, v = .slice A n C := by
  rcases h.2 with ⟨rfl, h0⟩ | ⟨g, cap, cur, rfl, _⟩
  · subst h0; exact ⟨_, _, rfl⟩
  · exact ⟨_, _, rfl⟩
set_option maxHeartbeats 1600000 in
set_option maxRecDepth 100000 in
theorem bread_any (A : Option Addr) (C : Nat) (z : Nat → Nat) (w : World) (h : RowV w (.slice A 256 C) 256 z) : Calls Tryz.prog 119 #[.slice A 256 C] w (ReadBP z w) := by
  obtain ⟨w1, H, hZ⟩ := zeR w
  have HZ := Lib.hid hZ
  have HV1 := Lib.hid (h.gr hZ.ch)
  have HLE := Lib.hid (readL_le z)
  obtain ⟨b, o, rfl, _⟩ := h.at (by omega)
  obtain ⟨L, hL⟩ : ∃ L, L = rdLen z := ⟨_, rfl⟩
  have HL := Lib.hid hL
  have hLb : L ≤ 228 := by rw [hL]; exact readL_le z
  have hCb : 256 ≤ C := by obtain ⟨_, _, e, h2, _⟩ := h; injection e with _ _ e; rw [e]; exact h2.2
  have HN2 := Lib.hid (show nv z 20 2 = blkLong z from nv_2 z 20)
  have HMIN := Lib.hid (show (blkLong z ≤ 228 → L = blkLong z) ∧ (¬ blkLong z ≤ 228 → L = 228) from ⟨fun q => by rw [hL]; unfold rdLen; rw [if_pos q], fun q => by rw [hL]; unfold rdLen; rw [if_neg q]⟩)
  clear hZ h hL
  go_enter Tryz.func119, Tryz.ntmps119
  go_wp2_with ((with_reducible refine wpList_isOp (.alloc 80) rfl ?_); refine wpList_making _ w1 rfl 80 rfl (bkC bk0) H (zero_bk _) (by exact HZ.out.sz) (by exact HZ.out.al) ?_)
  refine (bnumber_any _ 256 _ 20 2 z _ HV1.out (by omega) (by omega) (by omega)).mono ?_
  rintro e w2 ⟨rfl, rfl⟩
  rw [HN2.out]
  have hXb : blkLong z ≤ 65791 := by
    have h0 := HV1.out.bytes 20 (by omega)
    have h1 := HV1.out.bytes 21 (by omega)
    unfold blkLong
    omega
  obtain ⟨X, hX⟩ : ∃ X, X = blkLong z := ⟨_, rfl⟩
  rw [← hX] at HMIN hXb ⊢
  clear hX
  have HS1 := Lib.hid (show Calls Tryz.prog 131 #[.slice (some ⟨b, o, none⟩) 256 C, .int .i64 2, .int .i64 1] w1.drew fun e w' => e = .returned (.int .i64 (z 2 : Int)) ∧ w' = w1.drew from by
    have := number_still (some ⟨b, o, none⟩) 256 C 2 1 z w1.drew (HV1.out.gr (Ch.refl _ w1).drew) (by omega) (by omega) (by omega)
    rw [nv_1] at this
    exact this)
  have HS4 := Lib.hid (show ∀ a : Nat, a + 4 ≤ 256 → Calls Tryz.prog 131 #[.slice (some ⟨b, o, none⟩) 256 C, .int .i64 (a : Int), .int .i64 4] w1.drew fun e w' => e = .returned (.int .i64 (numZ z a : Int)) ∧ w' = w1.drew from fun a ha => by
    have := number_still (some ⟨b, o, none⟩) 256 C a 4 z w1.drew (HV1.out.gr (Ch.refl _ w1).drew) (by omega) (by omega) (by omega)
    rw [nv_4] at this
    exact this)
  have HVD := Lib.hid (HV1.out.gr (Ch.refl _ w1).drew)
  have hcase : (X ≤ 228 ∧ L = X) ∨ (¬ X ≤ 228 ∧ (228 : Int) = (L : Int)) := by
    by_cases hq : X ≤ 228
    · exact Or.inl ⟨hq, HMIN.out.1 hq⟩
    · exact Or.inr ⟨hq, by rw [HMIN.out.2 hq]; rfl⟩
  clear HMIN
  obtain ⟨J, hJ⟩ : ∃ J, J = 24 + L := ⟨_, rfl⟩
  have e1 : IntKind.i64.wrap (24 + (L : Int)) = (J : Int) := by rw [IntKind.wrap_i64]; omega
  have j1 : (24 : Int) ≤ (J : Int) := by omega
  have j2 : (J : Int) ≤ (C : Int) := by omega
  have HCC := Lib.hid (show ¬ C = 24 by omega)
  have HJ := Lib.hid (show J - 24 = L by omega)
  have HBR := Lib.hid (show RowV w1.drew (.slice (some ⟨b, o + 24, none⟩) L (C - 24)) L (bodyZ z) from row_front (row_tail HVD.out (show 24 ≤ 256 by omega)) (by omega))
  clear hJ
  rcases hcase with ⟨hq, rfl⟩ | ⟨hq, hL⟩
  rotate_left
  have HLL := Lib.hid hL
  clear hL
  go_wp2
  rw [HLL.out]
  rotate_left
  go_wp2
  all_goals (
    go_still_tail 14, (by kernel_rfl)
    still_call (HS1.out)
    repeat still_step
    still_call (HS4.out 4 (by omega))
    repeat still_step
    still_call (HS4.out 8 (by omega))
    repeat still_step
    still_call (HS4.out 12 (by omega))
    repeat still_step
    still_call (HS4.out 16 (by omega))
    repeat still_step
    refine wpStill_nil ?_
    change wpList _ _ _ _ _ w1.drew
    rw [if_neg HCC.out, HJ.out]
    go_wp2_with fail
    refine (clone_any _ L _ (bodyZ z) _ HBR.out (by omega)).mono ?_
    rintro e w2 ⟨v, rfl, ho2, hc2⟩
    obtain ⟨A2, C2, rfl⟩ := own_slice ho2
    obtain ⟨w3, h3⟩ := stR (b := readB (.slice A2 L C2) z) ((hc2.block H (blk_lt (o := .cells (bkC bk0) 80 (0, 0)) HZ.out.cx) (fun f => f)).trans HZ.out.cx) ⟨_, _, _, rfl⟩
    have HP := Lib.hid (show ReadBP z w (.returned (.agg (bkC (readB (.slice A2 L C2) z)))) w3 from by
      have hcw : Ch (fun _ => False) w w2 := (HZ.out.ch.drew).trans hc2
      have hH : w.heap.size ≤ H := by rw [HZ.out.sz]; exact Nat.le_refl _
      have hH1 : H < w1.heap.size := blk_lt HZ.out.cx
      rw [HL.out] at ho2 ⊢
      refine ⟨A2, C2, rfl, ownsRow_low (base := w1.drew.heap.size) ?_ HZ.out.ch.drew.size, hcw.over h3.ch hH⟩
      exact own_of ho2 (fun i hi => h3.ch.block i (World.ownsRow.lt ho2 i hi).2 (fun e => by
        have h5 := (World.ownsRow.lt ho2 i hi).1
        have h6 : w1.drew.heap.size = w1.heap.size := rfl
        omega)))
    have H3 := Lib.hid h3
    clear ho2 hc2 h3
    go_wp2_with ((with_reducible refine wpList_isOp (.store 80 (.tmp 2) (.tmp 22)) rfl ?_); refine wpList_storing _ w3 rfl 80 (.tmp 2) (.tmp 22) rfl (.agg (bkC (readB (.slice A2 L C2) z))) ⟨H, 0, none⟩ rfl rfl (by exact H3.out.st) ?_)
    exact bodyPost_ret (v := .agg (bkC (readB (.slice A2 L C2) z))) (results_cell_row Tryz.results119 _ _ H 80 (bkC (readB (.slice A2 L C2) z)) (0, 0) _ rfl H3.out.cx Tryz.underlying80 rfl (info_bk _)) rfl HP.out)
end Go.Proofs.YteleknojohnlbaaGreat
namespace Go.Proofs.YteleknojohnlbaaGreat
open Go.RowKit
set_option linter.unusedVariables false
set_option maxRecDepth 100000

/-! ### rows of bytes -/
structure BsV (w : World) (A : Option Addr) (k C : Nat) (N : Nat → Nat) (Z : Nat → Nat → Nat) : Prop where
  le : k ≤ 140737488351232
  cap : k ≤ C
  at' : 0 < k → ∃ b o, A = some ⟨b, o, none⟩ ∧ ∀ c, c < k → ∃ A' C', w.cell? ⟨b, o + c, none⟩ = some (.slice A' (N c) C') ∧ RowV w (.slice A' (N c) C') (N c) (Z c)
theorem BsV.ch {S : Nat → Prop} {w w' : World} {A : Option Addr} {k C : Nat} {N : Nat → Nat} {Z : Nat → Nat → Nat} (h : BsV w A k C N Z) (g : Ch S w w') (hS : ∀ i, i < w.heap.size → ¬ S i) : BsV w' A k C N Z :=
  ⟨h.le, h.cap, fun h0 => by
    obtain ⟨b, o, hA, hc⟩ := h.at' h0
    refine ⟨b, o, hA, fun c hck => ?_⟩
    obtain ⟨A', C', h1, h2⟩ := hc c hck
    exact ⟨A', C', g.cell h1 (hS _ (World.block_lt_of_cell? _ _ h1)), h2.ch g hS⟩⟩
theorem BsV.gr {w w' : World} {A : Option Addr} {k C : Nat} {N : Nat → Nat} {Z : Nat → Nat → Nat} (h : BsV w A k C N Z) (g : Ch (fun _ => False) w w') : BsV w' A k C N Z := h.ch g (fun _ _ f => f)

theorem own_new {w wr w2 : World} {n C : Nat} {A : Option Addr} {z : Nat → Nat} (h : w2.ownsRow wr.heap.size /-t-/5 1 (.slice A n C) n (bytesL n z)) (hn : 0 < n) (hn2 : n ≤ 1000000) (hz : Bytes n z) (hc : w.heap.size ≤ wr.heap.size) : ∃ g, A = some ⟨g, 0, none⟩ ∧ OwnB w w2 (.slice A n C) n z g 0 C := by
  have hr := ownsRow_rowV h (by omega) hz
  obtain ⟨g, C', e, _⟩ := owns_some h hn
  injection e with e1 _ e2
  subst e1
  obtain ⟨hg, hb⟩ := own_at h (i := g) rfl
  exact ⟨g, rfl, ⟨rfl, hr, hb, Nat.le_trans hc hg⟩⟩
/-! ### rows of bytes, gathered -/
theorem under_bs : Tryz.prog.underlying /-t-/37 = some (.slice /-t-/24) := by kernel_rfl
theorem info_bs : (Tryz.prog.info? /-t-/24).map (fun i => (i.zero, i.size, i.bytes)) = some (some (.slice none 0 0), 1, 24) := by kernel_rfl
theorem wpList_appB {ops : Array Oper} {rest : List Oper} {o : Oper} {a : Act} {Q : Exit → Act → World → Prop} (w : World) (hgd : o.guard = none) (s x : Operand)
    (ho : o.op = .call { callee := .builtin .append, args := #[s, x], argTypes := #[ /-t-/37, /-t-/37] }) (hty : o.type = /-t-/37) (sv xv v' : Value) (w' : World) (hs : a.eval s = sv) (hx : a.eval x = xv)
    (hrun : (Builtin.append_ #[ /-t-/37, /-t-/37] /-t-/37 #[sv, xv]).run Tryz.prog w = .ok v' w') (h : wpList Tryz.prog ops Q rest (a.put o.dst v') w') : wpList Tryz.prog ops Q (o :: rest) a w := by
  refine wpList_plain hgd fun _ hK => ?_
  unfold Oper.wp execOp
  simp only [ho, hty, resolve, invoke, builtin, Sem.run_bind, Sem.run_pure, Result.andThen_ok, List.map_toArray, List.map_cons, List.map_nil, hs, hx, hrun]
  exact hK _ _ h
def slL (s : Nat → Value) (k : Nat) : List Value := (List.range k).map s
theorem slL_snoc (s : Nat → Value) (k : Nat) (u : Value) : slL (up s k u) (k + 1) = slL s k ++ [u] := by
  unfold slL
  rw [List.range_succ, List.map_append]
  congr 1
  · exact List.map_congr_left fun c hc => up_other s u (by have := List.mem_range.1 hc; omega)
  · simp [up_same]
/-- Bytes of one's own, or none. -/
def RowN (w wr : World) (u : Value) (n : Nat) (z : Nat → Nat) : Prop := ∃ A C, u = .slice A n C ∧ n ≤ C ∧ (n = 0 ∨ ∃ sb so, OwnB w wr u n z sb so C)
theorem RowN.ch {S : Nat → Prop} {w wr w' : World} {u : Value} {n : Nat} {z : Nat → Nat} (h : RowN w wr u n z) (k : Ch S wr w') (hS : ∀ i, S i → w.heap.size ≤ i → ¬ ∃ c, wr.heap[i]? = some (.cells c /-t-/5 (0, 0))) : RowN w w' u n z := by
  obtain ⟨A, C, h1, h2, h3⟩ := h
  refine ⟨A, C, h1, h2, h3.elim Or.inl fun ⟨sb, so, q⟩ => Or.inr ⟨sb, so, q.ch k fun hs => hS sb hs q.lo q.blk⟩⟩
theorem RowN.row {w wr : World} {u : Value} {n : Nat} {z : Nat → Nat} (h : RowN w wr u n z) : RowV wr u n z := by
  obtain ⟨A, C, h1, h2, h3⟩ := h
  rcases h3 with rfl | ⟨sb, so, q⟩
  · exact ⟨A, C, h1, ⟨by omega, h2⟩, fun q => absurd q (Nat.lt_irrefl 0)⟩
  · rw [q.eq]; exact q.row
theorem RowN.own {w wr w2 : World} {v : Value} {n : Nat} {z : Nat → Nat} (h : w2.ownsRow wr.heap.size /-t-/5 1 v n (bytesL n z)) (hn2 : n ≤ 1000000) (hz : Bytes n z) (hc : w.heap.size ≤ wr.heap.size) : RowN w w2 v n z := by
  obtain ⟨A, C, rfl⟩ := own_slice h
  obtain ⟨_, C', e, h2, _⟩ := ownsRow_rowV h (by omega) hz
  injection e with _ _ e
  subst e
  refine ⟨A, C, rfl, h2.2, ?_⟩
  by_cases q : n = 0
  · exact Or.inl q
  · obtain ⟨g, rfl, hb⟩ := own_new h (by omega) hn2 hz hc
    exact Or.inr ⟨g, 0, hb⟩
structure BsO (w wr : World) (v : Value) (k : Nat) (N : Nat → Nat) (Z : Nat → Nat → Nat) (s : Nat → Value) : Prop where
  own : wr.ownsRow w.heap.size /-t-/24 1 v k (slL s k)
  rows : ∀ c, c < k → RowN w wr (s c) (N c) (Z c)
theorem BsO.start (w : World) (N : Nat → Nat) (Z : Nat → Nat → Nat) (s : Nat → Value) : BsO w w (.slice none 0 0) 0 N Z s := ⟨World.ownsRow_nil w w.heap.size _ 1, fun c hc => absurd hc (Nat.not_lt_zero c)⟩
theorem BsO.ch {S : Nat → Prop} {w wr w' : World} {v : Value} {k : Nat} {N : Nat → Nat} {Z : Nat → Nat → Nat} {s : Nat → Value} (h : BsO w wr v k N Z s) (g : Ch S wr w') (hS : ∀ i, S i → i < w.heap.size) : BsO w w' v k N Z s :=
  ⟨own_of h.own fun i hi => by
    obtain ⟨hb, c, hc⟩ := own_at h.own hi
    exact g.block i (blk_lt hc) fun q => by have := hS i q; omega, fun c hc => (h.rows c hc).ch g fun i hi hb => by have := hS i hi; omega⟩
theorem BsO.len {w wr : World} {v : Value} {k : Nat} {N : Nat → Nat} {Z : Nat → Nat → Nat} {s : Nat → Value} (h : BsO w wr v k N Z s) : ∃ A C, v = .slice A k C := by
  rcases h.own.2 with ⟨rfl, h0⟩ | ⟨g, cap, cur, rfl, _⟩
  · exact ⟨none, 0, by rw [h0]⟩
  · exact ⟨_, _, rfl⟩
theorem RowN.one {w wr : World} {u : Value} {n : Nat} {z : Nat → Nat} (h : RowN w wr u n z) : u.oneCell' = true := by
  obtain ⟨A, C, h1, _⟩ := h
  rw [h1]; rfl
theorem BsO.app {w wr : World} {v u : Value} {k : Nat} {N : Nat → Nat} {Z : Nat → Nat → Nat} {s : Nat → Value} (h : BsO w wr v k N Z s) (hu : RowN w wr u (N k) (Z k)) (hk : k ≤ 1048576) (hw : w.heap.size ≤ wr.heap.size) :
    ∃ g cap w2, (Builtin.append_ #[ /-t-/37, /-t-/37] /-t-/37 #[v, .slice (some ⟨wr.heap.size, 0, none⟩) 1 1]).run Tryz.prog (wr.alloc (.cells #[u] /-t-/24)) = .ok (.slice (some ⟨g, 0, none⟩) (k + 1) cap) w2 ∧ BsO w w2 (.slice (some ⟨g, 0, none⟩) (k + 1) cap) (k + 1) N Z (up s k u) ∧ Ch (fun i => w.heap.size ≤ i) wr w2 := by
  obtain ⟨i0, hi, hz0, hz1, hz2⟩ := info_parts info_bs
  have k1 : Ch (fun _ => False) wr (wr.alloc (.cells #[u] /-t-/24)) := (Ch.refl _ wr).alloc _ _
  obtain ⟨g, cap, w2, hr, h2, h3, h4, _⟩ := run_append_lies (P := Tryz.prog) (wr.alloc (.cells #[u] /-t-/24)) /-t-/37 /-t-/37 w.heap.size /-t-/24 i0 (.slice none 0 0) 1 24 under_bs hi hz0 hz1 hz2 rfl (by decide) v k (slL s k) (ownsRow_ch h.own k1) ⟨wr.heap.size, 0, none⟩ 1 1 [u] rfl (fun j x hx => by
    rw [add_pl, blk_cell (heap_alloc_new wr _), Nat.zero_add]
    show ([u].toArray)[j]? = some x
    rw [List.getElem?_toArray]
    exact hx) (fun x hx => by rw [List.mem_singleton.1 hx]; exact hu.one) (by omega) (by unfold maxLen; omega) (by omega) (Nat.le_trans hw k1.size) _ rfl
  rw [← slL_snoc] at h2
  have k2 : Ch (fun i => v.ownBlock = some i) (wr.alloc (.cells #[u] /-t-/24)) w2 := (Ch.refl _ _).grown h3 (fun i hi => Or.inl hi)
  have off : ∀ i, v.ownBlock = some i → w.heap.size ≤ i → ¬ ∃ c, (wr.alloc (.cells #[u] /-t-/24)).heap[i]? = some (.cells c /-t-/5 (0, 0)) := fun i e _ ⟨c, hc⟩ => by
    obtain ⟨_, c2, hc2⟩ := own_at (ownsRow_ch h.own k1) e
    exact cells_ne hc2 hc (by decide) rfl
  refine ⟨g, cap, w2, hr, ⟨h2, fun c hc => ?_⟩, (k1.mono fun _ _ f => f.elim).trans (k2.mono fun i _ hi => (own_at h.own hi).1)⟩
  by_cases q : c = k
  · subst q
    rw [up_same]
    exact (hu.ch k1 fun _ f => f.elim).ch k2 off
  · rw [up_other _ _ q]
    exact ((h.rows c (by omega)).ch k1 fun _ f => f.elim).ch k2 off
theorem BsO.read {w wr : World} {A : Option Addr} {C k : Nat} {N : Nat → Nat} {Z : Nat → Nat → Nat} {s : Nat → Value} (h : BsO w wr (.slice A k C) k N Z s) (hk : k ≤ 1000000) : BsV wr A k C N Z := by
  have hC : k ≤ C := by
    rcases h.own.2 with ⟨e, h0⟩ | ⟨g, cap, cur, e, _, _, hc, _⟩
    · omega
    · injection e with _ _ e
      omega
  refine ⟨by omega, hC, fun h0 => ?_⟩
  rcases h.own.2 with ⟨_, q⟩ | ⟨g, cap, cur, e, hb, hg, _⟩
  · omega
  · injection e with e _ _
    subst e
    refine ⟨g, 0, rfl, fun c hc => ?_⟩
    have hr := h.rows c hc
    obtain ⟨A', C', e', _⟩ := id hr
    have c0 := World.ownsRow.cells h.own (g := g) rfl c (s c) (by unfold slL; simp [hc])
    rw [add_pl] at c0
    exact ⟨A', C', by rw [← e']; exact c0, by rw [← e']; exact hr.row⟩
end Go.Proofs.YteleknojohnlbaaGreat
namespace Go.Proofs.YteleknojohnlbaaGreat
open Go.ChangeShapes Go.WideShapes Go.ChangeAt Go.RowKit Go.Deep
set_option linter.unusedVariables false
set_option maxRecDepth 100000

theorem open_structsC {α : Type} {H : Type} {enc : TypeId × Value → H} {W : World} {v : Value} {d : DataW H} {p : List MemPlace} {T S : TypeId} (k : Nat) (hS : Tryz.prog.underlying S = some (.slice T)) (hT : Tryz.prog.cellsOf T = k) (h0 : 0 < k) (at' : Nat → Nat → α → Prop) (a0 : α)
    (each : ∀ (cs : List Value) (y : DataW H × List MemPlace) (fuel : Nat), cs.length = k → DataW.trod enc Tryz.prog W 0 (fun _ => true) true fuel T cs = some y → ∃ q : α, ∀ b o, (∀ j u, cs[j]? = some u → W.cell? ⟨b, o + j, none⟩ = some u) → at' b o q)
    (hv : ∃ a len cap, v = .slice a len cap) (h : DataW.Trod enc Tryz.prog W 0 (fun _ => true) true S v d p) :
    ∃ (A : Option Addr) (C m : Nat) (F : Nat → α), v = .slice A m C ∧ m ≤ C ∧ m ≤ 9223372036854775807 ∧ (0 < m → ∃ b o, A = some ⟨b, o, none⟩ ∧ ∀ c, c < m → at' b (o + c * k) (F c)) := by
  obtain ⟨a0', len, cap, rfl⟩ := hv
  obtain ⟨fuel, hf⟩ := h
  rcases open_slice hS hf with ⟨hcs0, hx⟩ | ⟨a, len', cap', m, n, D, Pl, hcs0, _, hl, hm, hmm, hx, hi⟩
  · simp [Value.cells] at hcs0
    obtain ⟨rfl, rfl, rfl⟩ := hcs0
    exact ⟨none, 0, 0, fun _ => a0, rfl, Nat.le_refl _, by omega, fun h => absurd h (Nat.lt_irrefl 0)⟩
  · simp [Value.cells] at hcs0
    obtain ⟨rfl, rfl, rfl⟩ := hcs0
    simp only [if_true] at hmm
    have one : ∀ i, i < len → ∃ q : α, ∀ b o, a = ⟨b, o, none⟩ → at' b (o + i * k) q := fun i hil => by
      obtain ⟨cs', hc, ht⟩ := hi i (by omega)
      rw [hT] at hc
      obtain ⟨_, hcl, hat⟩ := World.cells?_some hc
      obtain ⟨q, hq⟩ := each cs' _ n hcl ht
      refine ⟨q, fun b o hao => hq b _ fun j u hu => ?_⟩
      subst hao
      have hj : j < k := by rw [← hcl]; exact (List.getElem?_eq_some_iff.1 hu).1
      have := hat j hj
      rw [add_pl, add_pl, hu] at this
      exact this
    have first : 0 < len → ∃ b o, a = ⟨b, o, none⟩ := fun hlen => by
      obtain ⟨cs', hc, _⟩ := hi 0 (by omega)
      rw [hT] at hc
      obtain ⟨_, hcl, hat⟩ := World.cells?_some hc
      have := hat 0 (by omega)
      rw [Nat.zero_mul, List.getElem?_eq_getElem (by omega)] at this
      obtain ⟨b, o, sp⟩ := a
      have hs : sp = none := by simpa [Addr.add] using World.cell?_spot this
      exact ⟨b, o, by rw [hs]⟩
    have ch : ∀ i, ∃ q : α, i < len → ∀ b o, a = ⟨b, o, none⟩ → at' b (o + i * k) q := fun i => by
      by_cases hil : i < len
      · obtain ⟨q, hq⟩ := one i hil; exact ⟨q, fun _ => hq⟩
      · exact ⟨a0, fun h => absurd h hil⟩
    obtain ⟨F, hF⟩ := Classical.axiomOfChoice ch
    refine ⟨some a, cap, len, F, rfl, hl, by unfold maxLen at hm; omega, fun h0 => ?_⟩
    obtain ⟨b, o, rfl⟩ := first h0
    exact ⟨b, o, rfl, fun c hc => hF c hc b o rfl⟩
/-- A row of bytes. -/
structure Br where
  A : Option Addr
  n : Nat
  C : Nat
  z : Nat → Nat
def BrAt (w : World) (b o : Nat) (q : Br) : Prop := w.cell? ⟨b, o, none⟩ = some (.slice q.A q.n q.C) ∧ q.n ≤ q.C ∧ q.n ≤ 9223372036854775807 ∧ (0 < q.n → ∃ b' o', q.A = some ⟨b', o', none⟩ ∧ ∀ c, c < q.n → w.cell? ⟨b', o' + c, none⟩ = some (.int .u8 (q.z c : Int)) ∧ q.z c < 256)
theorem br_of {H : Type} {enc : TypeId × Value → H} {W : World} {v : Value} {x : DataW H × List MemPlace} {fuel : Nat} (h : DataW.trod enc Tryz.prog W 0 (fun _ => true) true fuel /-t-/24 [v] = some x) : ∃ (A : Option Addr) (n C : Nat) (z : Nat → Nat), v = .slice A n C ∧ n ≤ C ∧ n ≤ 9223372036854775807 ∧ (0 < n → ∃ b' o', A = some ⟨b', o', none⟩ ∧ ∀ c, c < n → W.cell? ⟨b', o' + c, none⟩ = some (.int .u8 (z c : Int)) ∧ z c < 256) := by
  rcases open_ints Tryz.underlying24 Tryz.underlying5 cells5 h with ⟨hcs0, _⟩ | ⟨a, len, cap, zs, hcs0, _, hl, hm, hzl, _, hcell, hwf⟩
  · simp at hcs0
    exact ⟨none, 0, 0, fun _ => 0, hcs0, Nat.le_refl _, by omega, fun h => absurd h (Nat.lt_irrefl 0)⟩
  · simp at hcs0
    simp only [if_true] at hzl
    refine ⟨some a, len, cap, fun c => (zs.getD c 0).toNat, hcs0, hl, by unfold maxLen at hm; omega, fun h0 => ?_⟩
    obtain ⟨b, o, rfl⟩ := addr_none (hcell 0 (by omega))
    refine ⟨b, o, rfl, fun c hc => ?_⟩
    have hcc := hcell c (by omega)
    rw [add_pl] at hcc
    have hb := b8 (hwf (zs.getD c 0) (by
      rw [List.getD, List.getElem?_eq_getElem (show c < zs.length by omega)]
      exact List.getElem_mem _))
    have e : (((zs.getD c 0).toNat : Nat) : Int) = zs.getD c 0 := by omega
    exact ⟨by show _ = some (Value.int .u8 (((zs.getD c 0).toNat : Nat) : Int)); rw [e]; exact hcc, by show (zs.getD c 0).toNat < 256; omega⟩
structure RowBs (w : World) (A : Option Addr) (m C : Nat) (g : Nat → Br) : Prop where
  cap : m ≤ C
  le : m ≤ 9223372036854775807
  at' : 0 < m → ∃ b o, A = some ⟨b, o, none⟩ ∧ ∀ c, c < m → BrAt w b (o + c) (g c)
theorem cells_bs : Tryz.prog.cellsOf /-t-/24 = 1 := by kernel_rfl
theorem open_rows {H : Type} {enc : TypeId × Value → H} {W : World} {v : Value} {d : DataW H} {p : List MemPlace} (hv : ∃ a len cap, v = .slice a len cap) (h : DataW.Trod enc Tryz.prog W 0 (fun _ => true) true /-t-/37 v d p) :
    ∃ (A : Option Addr) (C m : Nat) (g : Nat → Br), v = .slice A m C ∧ RowBs W A m C g := by
  obtain ⟨A, C, m, g, rfl, h0, h1, h2⟩ := open_structsC (α := Br) 1 Tryz.underlying37 cells_bs (by decide) (BrAt W) ⟨none, 0, 0, fun _ => 0⟩ (fun cs y fuel hcl ht => by
    match cs, hcl with
    | [x0], _ =>
      obtain ⟨qA, qn, qC, qz, rfl, e2⟩ := br_of (x := y) ht
      exact ⟨⟨qA, qn, qC, qz⟩, fun b o hc => ⟨hc 0 _ rfl, e2⟩⟩) hv h
  refine ⟨A, C, m, g, rfl, h0, h1, fun hm => ?_⟩
  obtain ⟨b, o, hA, hc⟩ := h2 hm
  exact ⟨b, o, hA, fun c hcm => by have := hc c hcm; rwa [Nat.mul_one] at this⟩
theorem BrAt.gr {w w' : World} {b o : Nat} {q : Br} (h : BrAt w b o q) (k : Ch (fun _ => False) w w') : BrAt w' b o q :=
  ⟨k.cell h.1 (fun f => f), h.2.1, h.2.2.1, fun h0 => by
    obtain ⟨b', o', hA, hc⟩ := h.2.2.2 h0
    exact ⟨b', o', hA, fun c hcm => ⟨k.cell (hc c hcm).1 (fun f => f), (hc c hcm).2⟩⟩⟩
theorem RowBs.gr {w w' : World} {A : Option Addr} {m C : Nat} {g : Nat → Br} (h : RowBs w A m C g) (k : Ch (fun _ => False) w w') : RowBs w' A m C g :=
  ⟨h.cap, h.le, fun h0 => by
    obtain ⟨b, o, hA, hc⟩ := h.at' h0
    exact ⟨b, o, hA, fun c hcm => (hc c hcm).gr k⟩⟩
/-- Rows of which the lengths alone are looked at. -/
structure LsV (w : World) (A : Option Addr) (k C : Nat) (N : Nat → Nat) : Prop where
  le : k ≤ 9223372036854775807
  cap : k ≤ C
  at' : 0 < k → ∃ b o, A = some ⟨b, o, none⟩ ∧ ∀ c, c < k → ∃ A' C', w.cell? ⟨b, o + c, none⟩ = some (.slice A' (N c) C') ∧ N c ≤ 9223372036854775807
theorem RowBs.ls {w : World} {A : Option Addr} {m C : Nat} {g : Nat → Br} (h : RowBs w A m C g) : LsV w A m C (fun c => (g c).n) :=
  ⟨h.le, h.cap, fun h0 => by
    obtain ⟨b, o, hA, hc⟩ := h.at' h0
    exact ⟨b, o, hA, fun c hcm => ⟨_, _, (hc c hcm).1, (hc c hcm).2.2.1⟩⟩⟩
theorem RowBs.bs' {w : World} {A : Option Addr} {m C : Nat} {g : Nat → Br} (h : RowBs w A m C g) (hm : m ≤ 1000) (hg : ∀ c, c < m → (g c).n ≤ 100000) : BsV w A m C (fun c => (g c).n) (fun c => (g c).z) :=
  ⟨by omega, h.cap, fun h0 => by
    obtain ⟨b, o, hA, hc⟩ := h.at' h0
    refine ⟨b, o, hA, fun c hcm => ?_⟩
    obtain ⟨h1, h2, _, h3⟩ := hc c hcm
    exact ⟨(g c).A, (g c).C, h1, (g c).A, (g c).C, rfl, ⟨by have := hg c hcm; omega, h2⟩, h3⟩⟩
end Go.Proofs.YteleknojohnlbaaGreat
namespace Go.Proofs.YteleknojohnlbaaGreat
open Go.ChangeShapes Go.WideShapes Go.ChangeAt Go.RowKit Go.Deep
set_option linter.unusedVariables false
set_option maxRecDepth 100000

end Go.Proofs.YteleknojohnlbaaGreat
namespace Go.Proofs.YteleknojohnlbaaGreat
open Go.ChangeShapes Go.WideShapes Go.ChangeAt Go.RowKit Go.Deep
set_option linter.unusedVariables false
set_option maxRecDepth 100000

theorem Tryz.infoI : (Tryz.prog.info? /-t-/3).map (fun i => (i.zero, i.size, i.bytes)) = some (some (.int .i64 0), 1, 8) := by kernel_rfl
theorem underI : Tryz.prog.underlying 45 = some (.slice /-t-/3) := by kernel_rfl
theorem underN : Tryz.prog.underlying /-t-/3 = some (.int .i64) := by kernel_rfl
/-! ### lists of ints -/
def numL (k : Nat) (q : Nat → Int) : List Value := (List.range k).map fun c => Value.int .i64 (q c)
theorem numL_snoc (k : Nat) (q : Nat → Int) : numL (k + 1) q = numL k q ++ [Value.int .i64 (q k)] := by unfold numL; rw [List.range_succ, List.map_append]; rfl
/-! ### a row, to be read -/
def IntV (w : World) (v : Value) (n : Nat) (q : Nat → Int) : Prop :=
  ∃ (A : Option Addr) (C : Nat), v = .slice A n C ∧ (n ≤ 140737488351232 ∧ n ≤ C) ∧ (0 < n → ∃ b o, A = some ⟨b, o, none⟩ ∧ ∀ c, c < n → w.cell? ⟨b, o + c, none⟩ = some (.int .i64 (q c)))
theorem IntV.ch {S : Nat → Prop} {w w' : World} {v : Value} {n : Nat} {q : Nat → Int} (h : IntV w v n q) (k : Ch S w w') (hS : ∀ i, i < w.heap.size → ¬ S i) : IntV w' v n q := by
  obtain ⟨A, C, h1, h2, h3⟩ := h
  refine ⟨A, C, h1, h2, fun hl => ?_⟩
  obtain ⟨b, o, hA, hc⟩ := h3 hl
  exact ⟨b, o, hA, fun c hcl => k.cell (hc c hcl) (hS _ (World.block_lt_of_cell? _ _ (hc c hcl)))⟩
theorem IntV.gr {w w' : World} {v : Value} {n : Nat} {q : Nat → Int} (h : IntV w v n q) (k : Ch (fun _ => False) w w') : IntV w' v n q := h.ch k (fun _ _ f => f)
theorem IntV.congr {w : World} {v : Value} {n : Nat} {q r : Nat → Int} (h : IntV w v n q) (e : ∀ c, c < n → q c = r c) : IntV w v n r := by
  obtain ⟨A, C, h1, h2, h3⟩ := h
  refine ⟨A, C, h1, h2, fun hl => ?_⟩
  obtain ⟨b, o, hA, hc⟩ := h3 hl
  exact ⟨b, o, hA, fun c hcl => by rw [← e c hcl]; exact hc c hcl⟩
theorem IntV.at {w : World} {A : Option Addr} {n C : Nat} {q : Nat → Int} (h : IntV w (.slice A n C) n q) (hn : 0 < n) : ∃ b o, A = some ⟨b, o, none⟩ ∧ ∀ c, c < n → w.cell? ⟨b, o + c, none⟩ = some (.int .i64 (q c)) := by
  obtain ⟨_, _, e, _, h3⟩ := h
  injection e with e _ _
  subst e
  exact h3 hn
theorem IntV.len {w : World} {v : Value} {n : Nat} {q : Nat → Int} (h : IntV w v n q) : ∃ A C, v = .slice A n C ∧ n ≤ 140737488351232 := by
  obtain ⟨A, C, h1, h2, _⟩ := h
  exact ⟨A, C, h1, h2.1⟩
theorem none_intV (w : World) (q : Nat → Int) (C : Nat) : IntV w (.slice none 0 C) 0 q := ⟨none, C, rfl, by omega, fun h => absurd h (Nat.lt_irrefl 0)⟩
/-! ### a number behind them -/
/-- Numbers that a call has gathered, one behind the other, since 'w'. -/
structure Nums (w wr : World) (v : Value) (k : Nat) (q : Nat → Int) : Prop where
  own : wr.ownsRow w.heap.size /-t-/3 1 v k (numL k q)
  ch : Ch (fun _ => False) w wr
theorem Nums.start (w : World) (q : Nat → Int) : Nums w w (.slice none 0 0) 0 q := ⟨World.ownsRow_nil w w.heap.size /-t-/3 1, Ch.refl _ w⟩
theorem Nums.app {w wr : World} {v : Value} {k : Nat} {q : Nat → Int} (h : Nums w wr v k q) (hk : k ≤ 1048576) :
    ∃ g cap w2, (∀ x, x = q k → (Builtin.append_ #[ 45, 45] 45 #[v, .slice (some ⟨wr.heap.size, 0, none⟩) 1 1]).run Tryz.prog (wr.alloc (.cells #[.int .i64 x] /-t-/3)) = .ok (.slice (some ⟨g, 0, none⟩) (k + 1) cap) w2) ∧ Nums w w2 (.slice (some ⟨g, 0, none⟩) (k + 1) cap) (k + 1) q := by
  obtain ⟨i0, hi, hz0, hz1, hz2⟩ := info_parts Tryz.infoI
  have k1 : Ch (fun _ => False) wr (wr.alloc (.cells #[.int .i64 (q k)] /-t-/3)) := (Ch.refl _ wr).alloc _ _
  obtain ⟨g, cap, w2, hr, h2, h3, h4, _⟩ := run_append_lies (P := Tryz.prog) (wr.alloc (.cells #[.int .i64 (q k)] /-t-/3)) 45 45 w.heap.size /-t-/3 i0 (.int .i64 0) 1 8 underI hi hz0 hz1 hz2 rfl (by decide) v k (numL k q) (ownsRow_ch h.own k1) ⟨wr.heap.size, 0, none⟩ 1 1 [.int .i64 (q k)] rfl (fun j u hu => by
    rw [add_pl, blk_cell (heap_alloc_new wr _), Nat.zero_add]
    show ([Value.int .i64 (q k)].toArray)[j]? = some u
    rw [List.getElem?_toArray]
    exact hu) (fun u hu => by rw [List.mem_singleton.1 hu]; rfl) (by omega) (by unfold maxLen; omega) (by omega) (Nat.le_trans h.ch.size k1.size) _ rfl
  rw [← numL_snoc] at h2
  refine ⟨g, cap, w2, fun x hx => by subst hx; exact hr, h2, ?_⟩
  have kc := h.ch.trans k1
  have k2 : Ch (fun i => v.ownBlock = some i) (wr.alloc (.cells #[.int .i64 (q k)] /-t-/3)) w2 := (Ch.refl _ _).grown h3 (fun i hi => Or.inl hi)
  refine kc.new (k2.mono fun i _ hi => ?_)
  exact (own_at h.own hi).1
/-! ### a row that is handed in -/
theorem cellsN : Tryz.prog.cellsOf /-t-/3 = 1 := by kernel_rfl
theorem bytesN : Tryz.prog.bytesOf /-t-/3 = 8 := by kernel_rfl
end Go.Proofs.YteleknojohnlbaaGreat
