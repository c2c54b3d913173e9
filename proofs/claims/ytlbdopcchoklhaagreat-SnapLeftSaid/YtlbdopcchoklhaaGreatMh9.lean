/-
  block.read and Open, walked. block.Open, walked. block.Class, walked. The document's Open (quartermasterref07), walked. The field of 256 numbers, in plain numbers: the powers of two, which power a number is, products by them, and the product by polynomials. No program is named here. The product by polynomials, bit by bit, is the product by powers of two. Plain numbers; no program is named here. The document's own answers, walked: bit, power, sum, Add (quartermasterref01).
-/
import Derived.Test.YtlbdopcchoklhaaGreatMh8
import Derived.Laws.ResultCell
import Derived.StillTailTactics
import Derived.Test.YtlbdopcchoklhaaGreatMh1
import Derived.Test.YtlbdopcchoklhaaGreatRows
import Derived.WalkKit
import Derived.WalkSpells
import Derived.WalkLawsBesides
import Derived.Lib.Hide
namespace Go.Proofs.YtlbdopcchoklhaaGreat
open Go.RowKit
set_option linter.unusedVariables false
set_option maxRecDepth 100000

/-! ### a block in a variable -/
theorem bkC_one {b : Bk} (h : ∃ A n C, b.V = .slice A n C) : (bkC b).all (·.oneCell') = true := by
  obtain ⟨A, n, C, h⟩ := h
  unfold bkC
  rw [h]
  simp [Value.oneCell']
theorem info_bk (b : Bk) : (Tryz.prog.info? 71).map (·.size) = some (bkC b).size := by
  show _ = some 6
  kernel_rfl
theorem zero_bk (w : World) : (zeroValue 71).run Tryz.prog w = .ok (.agg (bkC bk0)) w := Tryz.zeroValue71 w
/-- A zero block in a variable of its own. -/
structure ZeR (w w1 : World) (H : Nat) : Prop where
  al : w.alloc (.cells (bkC bk0) 71) = w1
  sz : w.heap.size = H
  cx : w1.heap[H]? = some (.cells (bkC bk0) 71 (0, 0))
  ch : Ch (fun _ => False) w w1
theorem zeR (w : World) : ∃ w1 H, ZeR w w1 H := ⟨_, _, rfl, rfl, heap_alloc_new w _, (Ch.refl _ w).alloc _ _⟩
/-- A block laid over what is in a variable. -/
theorem store_bk {w : World} {H : Nat} {a b : Bk} (h : w.heap[H]? = some (.cells (bkC a) 71 (0, 0))) (hb : ∃ A n C, b.V = .slice A n C) :
    (storeVar 71 ⟨H, 0, none⟩ (.agg (bkC b))).run Tryz.prog w = .ok () (w.setRow H (bkC b)) :=
  run_storeVar_row w H _ _ (bkC a) (bkC b) h (info_bk b) rfl (bkC_one hb)
structure StR (w w1 : World) (H : Nat) (b : Bk) : Prop where
  st : (storeVar 71 ⟨H, 0, none⟩ (.agg (bkC b))).run Tryz.prog w = .ok () w1
  cx : w1.heap[H]? = some (.cells (bkC b) 71 (0, 0))
  ch : Ch (fun j => j = H) w w1
theorem stR {w : World} {H : Nat} {a b : Bk} (h : w.heap[H]? = some (.cells (bkC a) 71 (0, 0))) (hb : ∃ A n C, b.V = .slice A n C) : ∃ w1, StR w w1 H b :=
  ⟨_, store_bk h hb, setRow_heap w H (bkC a) _ _ (0, 0) h, (Ch.refl (fun j => j = H) w).setRow (g := H) (Or.inl rfl) _⟩
theorem Ch.over {w0 w w1 : World} {H : Nat} (h : Ch (fun _ => False) w0 w) (k : Ch (fun j => j = H) w w1) (hH : w0.heap.size ≤ H) : Ch (fun _ => False) w0 w1 :=
  h.new (k.mono fun i _ e => by
    subst e
    exact hH)
theorem results_bk {fn : Func} {p u : Tmp} (h : fn.results = #[.cell p 71, .tmp u]) (tmps : Array Value) (w : World) (H : Nat) (b : Bk) (hp : tmps.getD p undef = .pointer (some ⟨H, 0, none⟩)) (hg : w.heap[H]? = some (.cells (bkC b) 71 (0, 0))) :
    (results fn tmps).run Tryz.prog w = .ok (.tuple #[.agg (bkC b), tmps.getD u undef]) w := by
  rw [results_cell_tmp h, hp]
  simp [asAddr, load_bk hg]
/-! ### read -/
def rdLen (z : Nat → Nat) : Nat := if blkLong z ≤ 228 then blkLong z else 228
def bodyZ (z : Nat → Nat) (c : Nat) : Nat := z (24 + c)
def ReadBP (z : Nat → Nat) (w : World) (e : Ending) (w' : World) : Prop :=
  ∃ A C, e = .returned (.agg (bkC (readB (.slice A (rdLen z) C) z))) ∧ w'.ownsRow w.heap.size /-t-/5 1 (.slice A (rdLen z) C) (rdLen z) (bytesL (rdLen z) (bodyZ z)) ∧ Ch (fun _ => False) w w'
theorem readL_le (z : Nat → Nat) : rdLen z ≤ 228 := by unfold rdLen; split <;> omega
theorem own_slice {w : World} {base n : Nat} {v : Value} {xs : List Value} (h : w.ownsRow base /-t-/5 1 v n xs) : ∃ A C, v = .slice A n C := by
  rcases h.2 with ⟨rfl, h0⟩ | ⟨g, cap, cur, rfl, _⟩
  · subst h0; exact ⟨_, _, rfl⟩
  · exact ⟨_, _, rfl⟩
set_option maxHeartbeats 1600000 in
set_option maxRecDepth 100000 in
theorem bread_any (A : Option Addr) (C : Nat) (z : Nat → Nat) (w : World) (h : RowV w (.slice A 256 C) 256 z) : Calls Tryz.prog 114 #[.slice A 256 C] w (ReadBP z w) := by
  obtain ⟨w1, H, hZ⟩ := zeR w
  have HZ := Lib.hid hZ
  have HV1 := Lib.hid (h.gr hZ.ch)
  have HLE := Lib.hid (readL_le z)
  obtain ⟨b, o, rfl, _⟩ := h.at (by omega)
  obtain ⟨L, hL⟩ : ∃ L, L = rdLen z := ⟨_, rfl⟩
  have HL := Lib.hid hL
  have hLb : L ≤ 228 := by rw [hL]; exact readL_le z
  have hCb : 256 ≤ C := by obtain ⟨_, _, e, h2, _⟩ := h; injection e with _ _ e; rw [e]; exact h2.2
  have HN2 := Lib.hid (show nv z 20 2 = blkLong z from nv_2 z 20)
  have HMIN := Lib.hid (show (blkLong z ≤ 228 → L = blkLong z) ∧ (¬ blkLong z ≤ 228 → L = 228) from ⟨fun q => by rw [hL]; unfold rdLen; rw [if_pos q], fun q => by rw [hL]; unfold rdLen; rw [if_neg q]⟩)
  clear hZ h hL
  go_enter Tryz.func114, Tryz.ntmps114
  go_wp2_with ((with_reducible refine wpList_isOp (.alloc 71) rfl ?_); refine wpList_making _ w1 rfl 71 rfl (bkC bk0) H (zero_bk _) (by exact HZ.out.sz) (by exact HZ.out.al) ?_)
  refine (bnumber_any _ 256 _ 20 2 z _ HV1.out (by omega) (by omega) (by omega)).mono ?_
  rintro e w2 ⟨rfl, rfl⟩
  rw [HN2.out]
  have hXb : blkLong z ≤ 65791 := by
    have h0 := HV1.out.bytes 20 (by omega)
    have h1 := HV1.out.bytes 21 (by omega)
    unfold blkLong
    omega
  obtain ⟨X, hX⟩ : ∃ X, X = blkLong z := ⟨_, rfl⟩
  rw [← hX] at HMIN hXb ⊢
  clear hX
  have HS1 := Lib.hid (show Calls Tryz.prog 133 #[.slice (some ⟨b, o, none⟩) 256 C, .int .i64 2, .int .i64 1] w1.drew fun e w' => e = .returned (.int .i64 (z 2 : Int)) ∧ w' = w1.drew from by
    have := number_still (some ⟨b, o, none⟩) 256 C 2 1 z w1.drew (HV1.out.gr (Ch.refl _ w1).drew) (by omega) (by omega) (by omega)
    rw [nv_1] at this
    exact this)
  have HS4 := Lib.hid (show ∀ a : Nat, a + 4 ≤ 256 → Calls Tryz.prog 133 #[.slice (some ⟨b, o, none⟩) 256 C, .int .i64 (a : Int), .int .i64 4] w1.drew fun e w' => e = .returned (.int .i64 (numZ z a : Int)) ∧ w' = w1.drew from fun a ha => by
    have := number_still (some ⟨b, o, none⟩) 256 C a 4 z w1.drew (HV1.out.gr (Ch.refl _ w1).drew) (by omega) (by omega) (by omega)
    rw [nv_4] at this
    exact this)
  have HVD := Lib.hid (HV1.out.gr (Ch.refl _ w1).drew)
  have hcase : (X ≤ 228 ∧ L = X) ∨ (¬ X ≤ 228 ∧ (228 : Int) = (L : Int)) := by
    by_cases hq : X ≤ 228
    · exact Or.inl ⟨hq, HMIN.out.1 hq⟩
    · exact Or.inr ⟨hq, by rw [HMIN.out.2 hq]; rfl⟩
  clear HMIN
  obtain ⟨J, hJ⟩ : ∃ J, J = 24 + L := ⟨_, rfl⟩
  have e1 : IntKind.i64.wrap (24 + (L : Int)) = (J : Int) := by rw [IntKind.wrap_i64]; omega
  have j1 : (24 : Int) ≤ (J : Int) := by omega
  have j2 : (J : Int) ≤ (C : Int) := by omega
  have HCC := Lib.hid (show ¬ C = 24 by omega)
  have HJ := Lib.hid (show J - 24 = L by omega)
  have HBR := Lib.hid (show RowV w1.drew (.slice (some ⟨b, o + 24, none⟩) L (C - 24)) L (bodyZ z) from row_front (row_tail HVD.out (show 24 ≤ 256 by omega)) (by omega))
  clear hJ
  rcases hcase with ⟨hq, rfl⟩ | ⟨hq, hL⟩
  rotate_left
  have HLL := Lib.hid hL
  clear hL
  go_wp2
  rw [HLL.out]
  rotate_left
  go_wp2
  all_goals (
    go_still_tail 14, (by kernel_rfl)
    still_call (HS1.out)
    repeat still_step
    still_call (HS4.out 4 (by omega))
    repeat still_step
    still_call (HS4.out 8 (by omega))
    repeat still_step
    still_call (HS4.out 12 (by omega))
    repeat still_step
    still_call (HS4.out 16 (by omega))
    repeat still_step
    refine wpStill_nil ?_
    change wpList _ _ _ _ _ w1.drew
    rw [if_neg HCC.out, HJ.out]
    go_wp2_with fail
    refine (clone_any _ L _ (bodyZ z) _ HBR.out (by omega)).mono ?_
    rintro e w2 ⟨v, rfl, ho2, hc2⟩
    obtain ⟨A2, C2, rfl⟩ := own_slice ho2
    obtain ⟨w3, h3⟩ := stR (b := readB (.slice A2 L C2) z) ((hc2.block H (blk_lt (o := .cells (bkC bk0) 71 (0, 0)) HZ.out.cx) (fun f => f)).trans HZ.out.cx) ⟨_, _, _, rfl⟩
    have HP := Lib.hid (show ReadBP z w (.returned (.agg (bkC (readB (.slice A2 L C2) z)))) w3 from by
      have hcw : Ch (fun _ => False) w w2 := (HZ.out.ch.drew).trans hc2
      have hH : w.heap.size ≤ H := by rw [HZ.out.sz]; exact Nat.le_refl _
      have hH1 : H < w1.heap.size := blk_lt HZ.out.cx
      rw [HL.out] at ho2 ⊢
      refine ⟨A2, C2, rfl, ownsRow_low (base := w1.drew.heap.size) ?_ HZ.out.ch.drew.size, hcw.over h3.ch hH⟩
      exact own_of ho2 (fun i hi => h3.ch.block i (World.ownsRow.lt ho2 i hi).2 (fun e => by
        have h5 := (World.ownsRow.lt ho2 i hi).1
        have h6 : w1.drew.heap.size = w1.heap.size := rfl
        omega)))
    have H3 := Lib.hid h3
    clear ho2 hc2 h3
    go_wp2_with ((with_reducible refine wpList_isOp (.store 71 (.tmp 2) (.tmp 22)) rfl ?_); refine wpList_storing _ w3 rfl 71 (.tmp 2) (.tmp 22) rfl (.agg (bkC (readB (.slice A2 L C2) z))) ⟨H, 0, none⟩ rfl rfl (by exact H3.out.st) ?_)
    exact bodyPost_ret (v := .agg (bkC (readB (.slice A2 L C2) z))) (results_cell_row Tryz.results114 _ _ H 71 (bkC (readB (.slice A2 L C2) z)) (0, 0) _ rfl H3.out.cx Tryz.underlying71 rfl (info_bk _)) rfl HP.out)
end Go.Proofs.YtlbdopcchoklhaaGreat
namespace Go.Proofs.YtlbdopcchoklhaaGreat
open Go.RowKit
set_option linter.unusedVariables false
set_option maxRecDepth 100000

def openB (n : Nat) (z : Nat → Nat) (V : Value) : Bk := if opensB n z then readB V z else bk0
def OpenPost (n : Nat) (z : Nat → Nat) (w : World) (e : Ending) (w' : World) : Prop :=
  ∃ V, e = .returned (.tuple #[.agg (bkC (openB n z V)), .int .i64 (openQ n z)]) ∧ BkIs w' (openB n z V) ∧ Ch (fun _ => False) w w'
theorem bk0_is (w : World) : BkIs w bk0 := by
  have h : N64 0 := by unfold N64; omega
  exact ⟨h, h, h, h, h, nil_row _ _⟩
theorem numZ_64 {z : Nat → Nat} {a n : Nat} (hz : Bytes n z) (ha : a + 4 ≤ n) : N64 (numZ z a) := by
  have := Crc.le4_lt (hz a (by omega)) (hz (a + 1) (by omega)) (hz (a + 2) (by omega)) (hz (a + 3) (by omega))
  unfold N64 numZ
  omega
theorem readB_is {w : World} {A : Option Addr} {C : Nat} {z : Nat → Nat} (hz : Bytes 256 z) (h : RowV w (.slice A (rdLen z) C) (rdLen z) (bodyZ z)) : BkIs w (readB (.slice A (rdLen z) C) z) := by
  refine ⟨?_, numZ_64 hz (by omega), numZ_64 hz (by omega), numZ_64 hz (by omega), numZ_64 hz (by omega), h⟩
  have := hz 2 (by omega)
  show N64 (z 2 : Int)
  unfold N64
  omega
theorem openE_long {n : Nat} (z : Nat → Nat) (h : n ≠ 256) : openQ n z = 1 := by unfold openQ; rw [if_neg h]
theorem opensB_long {n : Nat} (z : Nat → Nat) (h : n ≠ 256) : opensB n z = false := by unfold opensB; rw [decide_eq_false h, Bool.false_and]
theorem openE_at (z : Nat → Nat) : openQ 256 z = if opensB 256 z then 0 else 7 := by unfold openQ; rw [if_pos rfl]
theorem opensB_at (z : Nat → Nat) : opensB 256 z = (mayB (readB undef z) && eqB 256 256 (sectZ (readB undef z)) z) := by unfold opensB; rw [decide_eq_true rfl, Bool.true_and]
theorem openB_no {n : Nat} {z : Nat → Nat} (h : opensB n z = false) (V : Value) : openB n z V = bk0 := by unfold openB; rw [h]; rfl
theorem openB_yes {n : Nat} {z : Nat → Nat} (h : opensB n z = true) (V : Value) : openB n z V = readB V z := by unfold openB; rw [if_pos h]
theorem openPost_no {n : Nat} {z : Nat → Nat} {w w' : World} {x : Int} (h : opensB n z = false) (hx : openQ n z = x) (hc : Ch (fun _ => False) w w') : OpenPost n z w (.returned (.tuple #[.agg (bkC bk0), .int .i64 x])) w' :=
  ⟨undef, by rw [openB_no h, hx], by rw [openB_no h]; exact bk0_is _, hc⟩
theorem openPost_yes {n : Nat} {z : Nat → Nat} {w w' : World} {V : Value} (h : opensB n z = true) (hx : openQ n z = 0) (hb : BkIs w' (readB V z)) (hc : Ch (fun _ => False) w w') : OpenPost n z w (.returned (.tuple #[.agg (bkC (readB V z)), .int .i64 0])) w' :=
  ⟨V, by rw [openB_yes h, hx], by rw [openB_yes h]; exact hb, hc⟩
theorem bk0_V : ∃ A n C, bk0.V = .slice A n C := ⟨_, _, _, rfl⟩
set_option maxHeartbeats 1600000 in
set_option maxRecDepth 100000 in
theorem open_long (A : Option Addr) (n C : Nat) (z : Nat → Nat) (w : World) (hn : n ≤ 140737488351232) (h : n ≠ 256) : Calls Tryz.prog 75 #[.slice A n C] w (OpenPost n z w) := by
  obtain ⟨w1, H, hZ⟩ := zeR w
  obtain ⟨w2, h2⟩ := stR (b := bk0) hZ.cx bk0_V
  have HP := Lib.hid (openPost_no (w := w) (w' := w2) (opensB_long z h) (openE_long z h) (hZ.ch.over h2.ch (by rw [hZ.sz]; exact Nat.le_refl _)))
  have HZ := Lib.hid hZ
  have H2 := Lib.hid h2
  have t1 : ((n : Int) != 256) = true := by simp; omega
  clear hZ h2 h
  go_enter Tryz.func75, Tryz.ntmps75
  go_wp2_with (first
    | ((with_reducible refine wpList_isOp (.alloc 71) rfl ?_); refine wpList_making _ w1 rfl 71 rfl (bkC bk0) H (zero_bk _) (by exact HZ.out.sz) (by exact HZ.out.al) ?_)
    | ((with_reducible refine wpList_isOp (.store 71 (.tmp 2) (.tmp 10)) rfl ?_); refine wpList_storing _ w2 rfl 71 (.tmp 2) (.tmp 10) rfl (.agg (bkC bk0)) ⟨H, 0, none⟩ rfl rfl (by exact H2.out.st) ?_))
  exact bodyPost_ret (v := .tuple #[.agg (bkC bk0), .int .i64 1]) (results_bk Tryz.results75 _ _ H bk0 rfl H2.out.cx) rfl HP.out
set_option maxHeartbeats 3200000 in
set_option maxRecDepth 100000 in
theorem open_at (A : Option Addr) (C : Nat) (z : Nat → Nat) (w : World) (h : RowV w (.slice A 256 C) 256 z) : Calls Tryz.prog 75 #[.slice A 256 C] w (OpenPost 256 z w) := by
  obtain ⟨w1, H, hZ⟩ := zeR w
  have HZ := Lib.hid hZ
  have HV1 := Lib.hid (h.gr hZ.ch)
  have HBY := Lib.hid h.bytes
  have t1 : ((256 : Int) != 256) = false := by simp
  clear hZ h
  go_enter Tryz.func75, Tryz.ntmps75
  go_wp2_with ((with_reducible refine wpList_isOp (.alloc 71) rfl ?_); refine wpList_making _ w1 rfl 71 rfl (bkC bk0) H (zero_bk _) (by exact HZ.out.sz) (by exact HZ.out.al) ?_)
  refine (bread_any A C z _ HV1.out).mono ?_
  rintro e w2 ⟨A2, C2, rfl, ho2, hc2⟩
  obtain ⟨r, hr⟩ : ∃ r, r = readB (.slice A2 (rdLen z) C2) z := ⟨_, rfl⟩
  have hrV : r.V = .slice A2 r.len C2 := by rw [hr]; rfl
  have hrow2 := ownsRow_rowV ho2 (by have := readL_le z; omega) (fun c hc => HBY.out _ (by have := readL_le z; omega))
  have hr2 : BkIs w2 r := by rw [hr]; exact readB_is HBY.out hrow2
  obtain ⟨w3, H3, hZ3⟩ := zeR w2
  obtain ⟨w4, h4⟩ := stR (b := r) hZ3.cx ⟨_, _, _, hrV⟩
  have hc4 : Ch (fun _ => False) w2 w4 := hZ3.ch.over h4.ch (by rw [hZ3.sz]; exact Nat.le_refl _)
  have HR4 := Lib.hid (hr2.gr hc4)
  have HL4 := Lib.hid (load_bk h4.cx)
  have HZ3 := Lib.hid hZ3
  have H4 := Lib.hid h4
  have HC14 := Lib.hid (hc2.trans hc4)
  have HV4 := Lib.hid (HV1.out.gr (hc2.trans hc4))
  have HRV := Lib.hid hrV
  have HSE := Lib.hid (show mayB (readB undef z) = mayB r by rw [hr]; rfl)
  have HSZ := Lib.hid (show sectZ (readB undef z) = sectZ r by rw [hr]; rfl)
  have HRD := Lib.hid hr
  have HO4 := Lib.hid (show w4.ownsRow w1.heap.size /-t-/5 1 (.slice A2 r.len C2) r.len (bytesL r.len r.z) by
    rw [hr]
    exact ownsRow_ch ho2 hc4)
  rw [← hr]
  clear ho2 hc2 hrow2 hr2 hZ3 h4 hc4 hrV hr
  go_wp2_with (first
    | ((with_reducible refine wpList_isOp (.alloc 71) rfl ?_); refine wpList_making _ w3 rfl 71 rfl (bkC bk0) H3 (zero_bk _) (by exact HZ3.out.sz) (by exact HZ3.out.al) ?_)
    | ((with_reducible refine wpList_isOp (.store 71 (.tmp 4) (.tmp 12)) rfl ?_); refine wpList_storing _ w4 rfl 71 (.tmp 4) (.tmp 12) rfl (.agg (bkC r)) ⟨H3, 0, none⟩ rfl rfl (by exact H4.out.st) ?_)
    | ((with_reducible refine wpList_isOp (.load 71 (.tmp 4)) rfl ?_); refine wpList_loading _ rfl 71 (.tmp 4) rfl (.agg (bkC r)) ⟨H3, 0, none⟩ rfl (by exact HL4.out) ?_))
  refine (bseal_any r A2 C2 _ HRV.out HR4.out).mono ?_
  rintro e w5 ⟨A5, C5, rfl, ho5, hc5⟩
  have HC15 := Lib.hid (HC14.out.trans hc5)
  have hcx1 : w5.heap[H]? = some (.cells (bkC bk0) 71 (0, 0)) := (HC15.out.block H (blk_lt (o := .cells (bkC bk0) 71 (0, 0)) HZ.out.cx) (fun f => f)).trans HZ.out.cx
  have hcx4 : w5.heap[H3]? = some (.cells (bkC r) 71 (0, 0)) := (hc5.block H3 (blk_lt (o := .cells (bkC r) 71 (0, 0)) H4.out.cx) (fun f => f)).trans H4.out.cx
  have HL5 := Lib.hid (load_bk hcx4)
  have HV5 := Lib.hid (HV4.out.gr hc5)
  have HRb := Lib.hid (HR4.out.gr hc5)
  obtain ⟨wn, hn⟩ := stR (b := bk0) hcx1 bk0_V
  obtain ⟨wy, hy⟩ := stR (b := r) hcx1 ⟨_, _, _, HRV.out⟩
  have hH : w.heap.size ≤ H := by rw [HZ.out.sz]; exact Nat.le_refl _
  have HN := Lib.hid hn
  have HY := Lib.hid hy
  have HPN := Lib.hid (show opensB 256 z = false → OpenPost 256 z w (.returned (.tuple #[.agg (bkC bk0), .int .i64 7])) wn from fun q =>
    openPost_no q (by rw [openE_at, q]; rfl) ((HZ.out.ch.trans HC15.out).over hn.ch hH))
  have HPY := Lib.hid (show opensB 256 z = true → OpenPost 256 z w (.returned (.tuple #[.agg (bkC r), .int .i64 0])) wy from fun q => by
    have hb : BkIs wy r := by
      have hb5 := HRb.out
      have ho5y := ownsRow_ch HO4.out hc5
      have hoy : wy.ownsRow w1.heap.size /-t-/5 1 (.slice A2 r.len C2) r.len (bytesL r.len r.z) := own_of ho5y (fun i hi => hy.ch.block i (World.ownsRow.lt ho5y i hi).2 (fun e => by
        have h5 := (World.ownsRow.lt ho5y i hi).1
        have h6 := blk_lt (o := .cells (bkC bk0) 71 (0, 0)) HZ.out.cx
        omega))
      refine ⟨hb5.kind, hb5.vol, hb5.addr, hb5.epoch, hb5.seq, ?_⟩
      rw [HRV.out]
      exact ownsRow_rowV hoy (by
        obtain ⟨_, _, _, hh, _⟩ := hb5.row
        exact hh.1) hb5.row.bytes
    rw [HRD.out] at hb ⊢
    exact openPost_yes q (by rw [openE_at, q]; rfl) hb ((HZ.out.ch.trans HC15.out).over hy.ch hH))
  have HAT := Lib.hid (show opensB 256 z = (mayB r && eqB 256 256 (sectZ r) z) by rw [opensB_at, HSE.out, HSZ.out])
  have HSB := Lib.hid (show Bytes 256 (sectZ r) from sectZ_b HRb.out.row.bytes 256)
  by_cases hm : mayB r = true
  · have hN : sealN r = 256 := by unfold sealN; rw [hm]; rfl
    have hE : sealE r = 0 := of_decide_eq_true (by rw [← sealE_may]; exact hm)
    rw [hN] at ho5
    have HS5 := Lib.hid (ownsRow_rowV ho5 (by omega) HSB.out)
    have HQ := Lib.hid (show opensB 256 z = eqB 256 256 (sectZ r) z by rw [HAT.out, hm, Bool.true_and])
    rw [hN, hE]
    obtain ⟨q, hq⟩ : ∃ q, q = eqB 256 256 (sectZ r) z := ⟨_, rfl⟩
    have HEQ := Lib.hid hq
    rw [← hq] at HQ
    clear ho5 hc5 hn hy hcx1 hcx4 hN hE hm hq
    go_wp2_with fail
    refine (equal_any _ _ 256 256 _ _ _ _ _ HS5.out HV5.out).mono ?_
    rintro e w6 ⟨rfl, rfl⟩
    rw [← HEQ.out]
    cases q
    · go_wp2_with ((with_reducible refine wpList_isOp (.store 71 (.tmp 2) (.tmp 26)) rfl ?_); refine wpList_storing _ wn rfl 71 (.tmp 2) (.tmp 26) rfl (.agg (bkC bk0)) ⟨H, 0, none⟩ rfl rfl (by exact HN.out.st) ?_)
      exact bodyPost_ret (v := .tuple #[.agg (bkC bk0), .int .i64 7]) (results_bk Tryz.results75 _ _ H bk0 rfl HN.out.cx) rfl (HPN.out HQ.out)
    · go_wp2_with (first
        | ((with_reducible refine wpList_isOp (.load 71 (.tmp 4)) rfl ?_); refine wpList_loading _ rfl 71 (.tmp 4) rfl (.agg (bkC r)) ⟨H3, 0, none⟩ rfl (by exact HL5.out) ?_)
        | ((with_reducible refine wpList_isOp (.store 71 (.tmp 2) (.tmp 27)) rfl ?_); refine wpList_storing _ wy rfl 71 (.tmp 2) (.tmp 27) rfl (.agg (bkC r)) ⟨H, 0, none⟩ rfl rfl (by exact HY.out.st) ?_))
      exact bodyPost_ret (v := .tuple #[.agg (bkC r), .int .i64 0]) (results_bk Tryz.results75 _ _ H r rfl HY.out.cx) rfl (HPY.out HQ.out)
  · have hm : mayB r = false := by simpa using hm
    have HQ := Lib.hid (show opensB 256 z = false by rw [HAT.out, hm, Bool.false_and])
    have hE : sealE r ≠ 0 := fun e => by
      have := sealE_may (b := r)
      rw [hm, e] at this
      cases this
    obtain ⟨E, hEE⟩ : ∃ E, E = sealE r := ⟨_, rfl⟩
    rw [← hEE] at hE ⊢
    have t2 : (E != 0) = true := by simpa using hE
    clear ho5 hc5 hn hy hcx1 hcx4 hm hE hEE
    go_wp2_with ((with_reducible refine wpList_isOp (.store 71 (.tmp 2) (.tmp 26)) rfl ?_); refine wpList_storing _ wn rfl 71 (.tmp 2) (.tmp 26) rfl (.agg (bkC bk0)) ⟨H, 0, none⟩ rfl rfl (by exact HN.out.st) ?_)
    exact bodyPost_ret (v := .tuple #[.agg (bkC bk0), .int .i64 7]) (results_bk Tryz.results75 _ _ H bk0 rfl HN.out.cx) rfl (HPN.out HQ.out)
theorem bopen_any (A : Option Addr) (n C : Nat) (z : Nat → Nat) (w : World) (h : RowV w (.slice A n C) n z) : Calls Tryz.prog 75 #[.slice A n C] w (OpenPost n z w) := by
  by_cases e : n = 256
  · subst e; exact open_at A C z w h
  · obtain ⟨_, _, _, h2, _⟩ := id h
    exact open_long A n C z w h2.1 e
end Go.Proofs.YtlbdopcchoklhaaGreat
namespace Go.Proofs.YtlbdopcchoklhaaGreat
open Go.RowKit
set_option linter.unusedVariables false
set_option maxRecDepth 100000

def classQ (q1 q2 q3 q4 q5 : Bool) : Int := if q1 || q2 then 3 else if q3 || q4 || q5 then 2 else 1
end Go.Proofs.YtlbdopcchoklhaaGreat
namespace Go.Proofs.YtlbdopcchoklhaaGreat
open Go.RowKit
set_option linter.unusedVariables false
set_option maxRecDepth 100000

end Go.Proofs.YtlbdopcchoklhaaGreat
namespace Go.Proofs.YtlbdopcchoklhaaGreat.Gf

def dbl (a : Nat) : Nat := if 256 ≤ a * 2 then (a * 2) ^^^ 285 else a * 2
def ex : Nat → Nat
  | 0 => 1
  | n + 1 => dbl (ex n)
def lgU : Nat → Nat → Nat
  | 0, _ => 0
  | n + 1, a => if a = ex n then n else lgU n a
def lg (a : Nat) : Nat := lgU 255 a
def mul (a b : Nat) : Nat := if a = 0 ∨ b = 0 then 0 else ex ((lg a + lg b) % 255)

/-! ### all powers, as a list -/
def exL : Nat → Nat → List Nat
  | 0, _ => []
  | k + 1, x => x :: exL k (dbl x)
theorem exL_get (k : Nat) : ∀ (m i : Nat), i < k → (exL k (ex m))[i]? = some (ex (m + i)) := by
  induction k with
  | zero => intro m i h; omega
  | succ k ih =>
    intro m i h
    cases i with
    | zero => simp [exL]
    | succ i =>
      have := ih (m + 1) i (by omega)
      simp only [ex] at this
      simp only [exL, List.getElem?_cons_succ, this]
      congr 2; omega
theorem exL_len (k : Nat) : ∀ x, (exL k x).length = k := by
  induction k with
  | zero => intro x; rfl
  | succ k ih => intro x; simp [exL, ih]

theorem dbl_lt' : (List.range 256).all (fun a => decide (dbl a < 256) && (a == 0 || dbl a != 0)) = true := by decide +kernel
theorem dbl_lt {a : Nat} (h : a < 256) : dbl a < 256 := by
  have := List.all_eq_true.1 dbl_lt' a (List.mem_range.2 h)
  simp at this; exact this.1
theorem dbl_pos {a : Nat} (h : a < 256) (h0 : 0 < a) : 0 < dbl a := by
  have := List.all_eq_true.1 dbl_lt' a (List.mem_range.2 h)
  simp at this; rcases this.2 with h | h <;> omega
theorem ex_lt (n : Nat) : ex n < 256 := by
  induction n with
  | zero => decide
  | succ n ih => exact dbl_lt ih
theorem ex_pos (n : Nat) : 0 < ex n := by
  induction n with
  | zero => decide
  | succ n ih => exact dbl_pos (ex_lt n) ih

theorem exL_all : (List.range 256).all (fun a => a == 0 || (exL 255 1).contains a) = true := by decide +kernel
theorem ex_on {a : Nat} (h : a < 256) (h0 : 0 < a) : ∃ n, n < 255 ∧ ex n = a := by
  have := List.all_eq_true.1 exL_all a (List.mem_range.2 h)
  simp only [Bool.or_eq_true, beq_iff_eq, List.contains_eq_mem, decide_eq_true_eq] at this
  rcases this with h | h
  · omega
  · obtain ⟨i, hi, he⟩ := List.mem_iff_getElem.1 h
    have hl := exL_len 255 1
    refine ⟨i, by omega, ?_⟩
    have := exL_get 255 0 i (by omega)
    simp only [ex, Nat.zero_add] at this
    rw [List.getElem?_eq_getElem hi] at this
    injection this with this
    omega
theorem exL_nodup : (exL 255 1).Nodup := by decide +kernel
theorem ex_inj {i j : Nat} (hi : i < 255) (hj : j < 255) (h : ex i = ex j) : i = j := by
  have hl := exL_len 255 1
  have a := exL_get 255 0 i hi
  have b := exL_get 255 0 j hj
  simp only [ex, Nat.zero_add] at a b
  have := (List.getElem?_inj (i := i) (j := j) (by omega) exL_nodup).1 (by rw [a, b, h])
  exact this

theorem ex_255 : ex 255 = 1 := by decide +kernel
theorem ex_period (m : Nat) : ex (m + 255) = ex m := by
  induction m with
  | zero => rw [Nat.zero_add]; exact ex_255
  | succ m ih =>
    have e : ex (m + 255 + 1) = dbl (ex (m + 255)) := rfl
    rw [show m + 1 + 255 = (m + 255) + 1 by omega, e, ih]
    rfl
theorem ex_mul (k m : Nat) : ex (m + 255 * k) = ex m := by
  induction k with
  | zero => rfl
  | succ k ih => rw [show m + 255 * (k + 1) = (m + 255 * k) + 255 by omega, ex_period, ih]
theorem ex_mod (n : Nat) : ex (n % 255) = ex n := by
  have := ex_mul (n / 255) (n % 255)
  rw [← this]; congr 1; omega

theorem lgU_of (n a : Nat) (h : ∃ i, i < n ∧ ex i = a) : ex (lgU n a) = a ∧ lgU n a < n := by
  induction n with
  | zero => obtain ⟨i, hi, _⟩ := h; omega
  | succ n ih =>
    unfold lgU
    by_cases e : a = ex n
    · rw [if_pos e]; exact ⟨e.symm, by omega⟩
    · rw [if_neg e]
      obtain ⟨i, hi, he⟩ := h
      have : i < n := by
        by_cases q : i = n
        · subst q; exact absurd he.symm e
        · omega
      have := ih ⟨i, this, he⟩
      exact ⟨this.1, by omega⟩
theorem lgU_lt (n a : Nat) : lgU n a ≤ n := by
  induction n with
  | zero => exact Nat.le_refl _
  | succ n ih => unfold lgU; split <;> omega
theorem ex_lg {a : Nat} (h : a < 256) (h0 : 0 < a) : ex (lg a) = a := (lgU_of 255 a (ex_on h h0)).1
theorem lg_lt {a : Nat} (h : a < 256) (h0 : 0 < a) : lg a < 255 := (lgU_of 255 a (ex_on h h0)).2
theorem lg_le (a : Nat) : lg a ≤ 255 := lgU_lt 255 a
theorem lg_ex (n : Nat) : lg (ex n) = n % 255 :=
  ex_inj (lg_lt (ex_lt n) (ex_pos n)) (by omega) (by rw [ex_lg (ex_lt n) (ex_pos n), ex_mod])

/-! ### products -/
theorem mul_lt (a b : Nat) : mul a b < 256 := by unfold mul; split; omega; exact ex_lt _
theorem mul_zero (a : Nat) : mul a 0 = 0 := by simp [mul]
theorem zero_mul (a : Nat) : mul 0 a = 0 := by simp [mul]
theorem mul_of {a b : Nat} (ha : 0 < a) (hb : 0 < b) : mul a b = ex (lg a + lg b) := by
  unfold mul; rw [if_neg (by omega), ex_mod]
theorem mul_pos {a b : Nat} (ha : 0 < a) (hb : 0 < b) : 0 < mul a b := by rw [mul_of ha hb]; exact ex_pos _
theorem mul_ex (m n : Nat) : mul (ex m) (ex n) = ex (m + n) := by
  rw [mul_of (ex_pos _) (ex_pos _), lg_ex, lg_ex, ← ex_mod, ← ex_mod (m + n)]; congr 1; omega
theorem mul_comm (a b : Nat) : mul a b = mul b a := by
  unfold mul
  by_cases h : a = 0 ∨ b = 0
  · rw [if_pos h, if_pos h.symm]
  · rw [if_neg h, if_neg (fun q => h q.symm), Nat.add_comm]
theorem mul_assoc {a b c : Nat} (ha : a < 256) (hb : b < 256) (hc : c < 256) : mul (mul a b) c = mul a (mul b c) := by
  by_cases a0 : a = 0
  · subst a0; simp [zero_mul]
  by_cases b0 : b = 0
  · subst b0; simp [zero_mul, mul_zero]
  by_cases c0 : c = 0
  · subst c0; simp [mul_zero]
  rw [← ex_lg ha (by omega), ← ex_lg hb (by omega), ← ex_lg hc (by omega)]
  simp only [mul_ex]
  congr 1; omega
theorem mul_one {a : Nat} (ha : a < 256) : mul a 1 = a := by
  by_cases a0 : a = 0
  · subst a0; exact zero_mul 1
  have := mul_ex (lg a) 0
  rw [Nat.add_zero, ex_lg ha (by omega)] at this
  exact this

def itd : Nat → Nat → Nat
  | 0, b => b
  | n + 1, b => dbl (itd n b)
theorem itd_ex (n m : Nat) : itd n (ex m) = ex (m + n) := by
  induction n with
  | zero => rfl
  | succ n ih => simp only [itd, ih]; rfl
theorem itd_zero (n : Nat) : itd n 0 = 0 := by
  induction n with
  | zero => rfl
  | succ n ih => simp only [itd, ih]; decide
theorem itd_lt (n : Nat) {b : Nat} (h : b < 256) : itd n b < 256 := by
  induction n with
  | zero => exact h
  | succ n ih => exact dbl_lt ih
theorem mul_itd {a b : Nat} (hb : b < 256) (a0 : 0 < a) : mul a b = itd (lg a) b := by
  by_cases b0 : b = 0
  · subst b0; rw [mul_zero, itd_zero]
  have e := ex_lg hb (by omega)
  rw [← e, itd_ex, mul_of a0 (ex_pos _), lg_ex, ← ex_mod, ← ex_mod (lg b + lg a)]
  congr 1; omega

theorem xor_lt {a b : Nat} (ha : a < 256) (hb : b < 256) : a ^^^ b < 256 := Nat.xor_lt_two_pow (n := 8) ha hb
theorem dbl_xor' : (List.range 256).all (fun a => (List.range 256).all fun b => dbl (a ^^^ b) == dbl a ^^^ dbl b) = true := by decide +kernel
theorem dbl_xor {a b : Nat} (ha : a < 256) (hb : b < 256) : dbl (a ^^^ b) = dbl a ^^^ dbl b := by
  have := List.all_eq_true.1 (List.all_eq_true.1 dbl_xor' a (List.mem_range.2 ha)) b (List.mem_range.2 hb)
  simpa using this
theorem itd_xor (n : Nat) {a b : Nat} (ha : a < 256) (hb : b < 256) : itd n (a ^^^ b) = itd n a ^^^ itd n b := by
  induction n with
  | zero => rfl
  | succ n ih => simp only [itd, ih]; exact dbl_xor (itd_lt n ha) (itd_lt n hb)
theorem mul_xor {a b c : Nat} (ha : a < 256) (hb : b < 256) (hc : c < 256) : mul a (b ^^^ c) = mul a b ^^^ mul a c := by
  by_cases a0 : a = 0
  · subst a0; simp [zero_mul]
  rw [mul_itd (xor_lt hb hc) (by omega), mul_itd hb (by omega), mul_itd hc (by omega), itd_xor _ hb hc]

/-! ### quotients: the number whose product it is -/
def quo (a b : Nat) : Nat := if a = 0 then 0 else ex (lg a + 255 - lg b)
theorem quo_lt (a b : Nat) : quo a b < 256 := by unfold quo; split; omega; exact ex_lt _
theorem mul_quo {a b : Nat} (ha : a < 256) (hb : b < 256) (b0 : 0 < b) : mul (quo a b) b = a := by
  unfold quo
  by_cases a0 : a = 0
  · subst a0; simp [zero_mul]
  rw [if_neg a0]
  have := lg_le b
  have l1 := lg_lt hb b0
  have e := mul_ex (lg a + 255 - lg b) (lg b)
  rw [ex_lg hb b0] at e
  rw [e, show lg a + 255 - lg b + lg b = lg a + 255 by omega, ex_period, ex_lg ha (by omega)]
theorem quo_mul {a b : Nat} (ha : a < 256) (hb : b < 256) (b0 : 0 < b) : quo (mul a b) b = a := by
  unfold quo
  by_cases a0 : a = 0
  · subst a0; simp [zero_mul]
  have p := mul_pos (show 0 < a by omega) b0
  rw [if_neg (by omega), mul_of (by omega) b0, lg_ex]
  have l1 := lg_lt hb b0
  have l2 := lg_lt ha (by omega)
  rw [← ex_mod]
  rw [show ((lg a + lg b) % 255 + 255 - lg b) % 255 = lg a by omega, ex_lg ha (by omega)]
theorem mul_only {a b c : Nat} (ha : a < 256) (hb : b < 256) (b0 : 0 < b) (h : mul a b = c) : a = quo c b := by
  rw [← h, quo_mul ha hb b0]
end Go.Proofs.YtlbdopcchoklhaaGreat.Gf
namespace Go.Proofs.YtlbdopcchoklhaaGreat

def pwF (k : Nat) : Nat := 2 ^ k
def shF (a k : Nat) : Nat := a / 2 ^ k
def bt (a k : Nat) : Nat := a / 2 ^ k % 2
def xr (a b : Nat) : Nat := a ^^^ b
def xm (a b k : Nat) : Nat := (a ^^^ b) % 2 ^ k

/-! ### the product: as it stands -/
def m1 (a b : Nat) : Nat → Nat
  | 0 => 0
  | k + 1 => if bt b k = 1 then xr (m1 a b k) (a * pwF k) else m1 a b k
def red (n k : Nat) : Nat := if bt n k = 1 then xr n (285 * pwF (k - 8)) else n
def m2 (n : Nat) : Nat → Nat
  | 0 => n
  | j + 1 => red (m2 n j) (15 - j)
def rmul (a b : Nat) : Nat := m2 (m1 a b 8) 8

theorem pw7F (k : Nat) (h : k < 8) : pwF k ≤ 128 := by
  have := Nat.pow_le_pow_right (show 0 < 2 by omega) (show k ≤ 7 by omega)
  unfold pwF
  omega
/-! ### sums go through -/
theorem low_xor' : (List.range 8).all (fun k => (List.range 128).all fun x => !decide (x < pwF k) || x ^^^ pwF k == x + pwF k) = true := by decide +kernel
theorem low_xor {k x : Nat} (hk : k < 8) (hx : x < pwF k) : x ^^^ pwF k = x + pwF k := by
  have := pw7F k hk
  have := List.all_eq_true.1 (List.all_eq_true.1 low_xor' k (List.mem_range.2 hk)) x (List.mem_range.2 (by omega))
  simpa [hx] using this
end Go.Proofs.YtlbdopcchoklhaaGreat
namespace Go.Proofs.YtlbdopcchoklhaaGreat
open Go.RowKit

/-! ### sum: without carry -/
end Go.Proofs.YtlbdopcchoklhaaGreat
