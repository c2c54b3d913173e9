/-
  block.read and Open, walked. block.Open, walked. block.Class, walked. Four bytes in a row, changed one after the other.
-/
import Derived.Test.YtjdknebifcdicaaMg10
import Derived.Laws.ResultCell
import Derived.StillTailTactics
import Derived.Test.YtjdknebifcdicaaMg9
import Derived.Test.YtjdknebifcdicaaMg2
namespace Go.Proofs.Ytjdknebifcdicaa
open Go.RowKit
set_option linter.unusedVariables false
set_option maxRecDepth 100000

/-! ### a block in a variable -/
theorem bkC_one {b : Bk} (h : ∃ A n C, b.V = .slice A n C) : (bkC b).all (·.oneCell') = true := by
  obtain ⟨A, n, C, h⟩ := h
  unfold bkC
  rw [h]
  simp [Value.oneCell']
theorem bkC_size (b : Bk) : (bkC b).size = 6 := rfl
theorem info_bk (b : Bk) : (Try.prog.info? 61).map (·.size) = some (bkC b).size := by
  show _ = some 6
  kernel_rfl
theorem zero_bk (w : World) : (zeroValue 61).run Try.prog w = .ok (.agg (bkC bk0)) w := Try.zeroValue61 w
/-- A zero block in a variable of its own. -/
structure ZeR (w w1 : World) (H : Nat) : Prop where
  al : w.alloc (.cells (bkC bk0) 61) = w1
  sz : w.heap.size = H
  cx : w1.heap[H]? = some (.cells (bkC bk0) 61 (0, 0))
  ch : Ch (fun _ => False) w w1
theorem zeR (w : World) : ∃ w1 H, ZeR w w1 H := ⟨_, _, rfl, rfl, heap_alloc_new w _, (Ch.refl _ w).alloc _ _⟩
/-- A block laid over what is in a variable. -/
theorem store_bk {w : World} {H : Nat} {a b : Bk} (h : w.heap[H]? = some (.cells (bkC a) 61 (0, 0))) (hb : ∃ A n C, b.V = .slice A n C) :
    (storeVar 61 ⟨H, 0, none⟩ (.agg (bkC b))).run Try.prog w = .ok () (w.setRow H (bkC b)) :=
  run_storeVar_row w H _ _ (bkC a) (bkC b) h (info_bk b) rfl (bkC_one hb)
structure StR (w w1 : World) (H : Nat) (b : Bk) : Prop where
  st : (storeVar 61 ⟨H, 0, none⟩ (.agg (bkC b))).run Try.prog w = .ok () w1
  cx : w1.heap[H]? = some (.cells (bkC b) 61 (0, 0))
  ch : Ch (fun j => j = H) w w1
theorem stR {w : World} {H : Nat} {a b : Bk} (h : w.heap[H]? = some (.cells (bkC a) 61 (0, 0))) (hb : ∃ A n C, b.V = .slice A n C) : ∃ w1, StR w w1 H b :=
  ⟨_, store_bk h hb, setRow_heap w H (bkC a) _ _ (0, 0) h, (Ch.refl (fun j => j = H) w).setRow (g := H) (Or.inl rfl) _⟩
theorem Ch.over {w0 w w1 : World} {H : Nat} (h : Ch (fun _ => False) w0 w) (k : Ch (fun j => j = H) w w1) (hH : w0.heap.size ≤ H) : Ch (fun _ => False) w0 w1 :=
  h.new (k.mono fun i _ e => by
    subst e
    exact hH)
theorem results_bk {fn : Func} {p u : Tmp} (h : fn.results = #[.cell p 61, .tmp u]) (tmps : Array Value) (w : World) (H : Nat) (b : Bk) (hp : tmps.getD p undef = .pointer (some ⟨H, 0, none⟩)) (hg : w.heap[H]? = some (.cells (bkC b) 61 (0, 0))) :
    (results fn tmps).run Try.prog w = .ok (.tuple #[.agg (bkC b), tmps.getD u undef]) w := by
  rw [results_cell_tmp h, hp]
  simp [asAddr, load_bk hg]
#print axioms results_bk

/-! ### read -/
def rdLen (z : Nat → Nat) : Nat := if blkLong z ≤ 228 then blkLong z else 228
def bodyZ (z : Nat → Nat) (c : Nat) : Nat := z (24 + c)
theorem readB_len (V : Value) (z : Nat → Nat) : (readB V z).len = rdLen z := rfl
def ReadBP (z : Nat → Nat) (w : World) (e : Ending) (w' : World) : Prop :=
  ∃ A C, e = .returned (.agg (bkC (readB (.slice A (rdLen z) C) z))) ∧ w'.ownsRow w.heap.size /-t-/5 1 (.slice A (rdLen z) C) (rdLen z) (bytesL (rdLen z) (bodyZ z)) ∧ Ch (fun _ => False) w w'
theorem readL_le (z : Nat → Nat) : rdLen z ≤ 228 := by unfold rdLen; split <;> omega
theorem own_slice {w : World} {base n : Nat} {v : Value} {xs : List Value} (h : w.ownsRow base /-t-/5 1 v n xs) : ∃ A C, v = .slice A n C := by
  rcases h.2 with ⟨rfl, h0⟩ | ⟨g, cap, cur, rfl, _⟩
  · subst h0; exact ⟨_, _, rfl⟩
  · exact ⟨_, _, rfl⟩
set_option maxHeartbeats 1600000 in
set_option maxRecDepth 100000 in
theorem bread_any (A : Option Addr) (C : Nat) (z : Nat → Nat) (w : World) (h : RowV w (.slice A 256 C) 256 z) : Calls Try.prog 80 #[.slice A 256 C] w (ReadBP z w) := by
  obtain ⟨w1, H, hZ⟩ := zeR w
  have HZ := Lib.hid hZ
  have HV1 := Lib.hid (h.gr hZ.ch)
  have HLE := Lib.hid (readL_le z)
  obtain ⟨b, o, rfl, _⟩ := h.at (by omega)
  obtain ⟨L, hL⟩ : ∃ L, L = rdLen z := ⟨_, rfl⟩
  have HL := Lib.hid hL
  have hLb : L ≤ 228 := by rw [hL]; exact readL_le z
  have hCb : 256 ≤ C := by obtain ⟨_, _, e, h2, _⟩ := h; injection e with _ _ e; rw [e]; exact h2.2
  have HN2 := Lib.hid (show nv z 20 2 = blkLong z from nv_2 z 20)
  have HMIN := Lib.hid (show (blkLong z ≤ 228 → L = blkLong z) ∧ (¬ blkLong z ≤ 228 → L = 228) from ⟨fun q => by rw [hL]; unfold rdLen; rw [if_pos q], fun q => by rw [hL]; unfold rdLen; rw [if_neg q]⟩)
  clear hZ h hL
  go_enter Try.func80, Try.ntmps80
  go_wp2_with ((with_reducible refine wpList_isOp (.alloc 61) rfl ?_); refine wpList_making _ w1 rfl 61 rfl (bkC bk0) H (zero_bk _) (by exact HZ.out.sz) (by exact HZ.out.al) ?_)
  refine (bnumber_any _ 256 _ 20 2 z _ HV1.out (by omega) (by omega) (by omega)).mono ?_
  rintro e w2 ⟨rfl, rfl⟩
  rw [HN2.out]
  have hXb : blkLong z ≤ 65791 := by
    have h0 := HV1.out.bytes 20 (by omega)
    have h1 := HV1.out.bytes 21 (by omega)
    unfold blkLong
    omega
  obtain ⟨X, hX⟩ : ∃ X, X = blkLong z := ⟨_, rfl⟩
  rw [← hX] at HMIN hXb ⊢
  clear hX
  have HS1 := Lib.hid (show Calls Try.prog 89 #[.slice (some ⟨b, o, none⟩) 256 C, .int .i64 2, .int .i64 1] w1.drew fun e w' => e = .returned (.int .i64 (z 2 : Int)) ∧ w' = w1.drew from by
    have := number_still (some ⟨b, o, none⟩) 256 C 2 1 z w1.drew (HV1.out.gr (Ch.refl _ w1).drew) (by omega) (by omega) (by omega)
    rw [nv_1] at this
    exact this)
  have HS4 := Lib.hid (show ∀ a : Nat, a + 4 ≤ 256 → Calls Try.prog 89 #[.slice (some ⟨b, o, none⟩) 256 C, .int .i64 (a : Int), .int .i64 4] w1.drew fun e w' => e = .returned (.int .i64 (numZ z a : Int)) ∧ w' = w1.drew from fun a ha => by
    have := number_still (some ⟨b, o, none⟩) 256 C a 4 z w1.drew (HV1.out.gr (Ch.refl _ w1).drew) (by omega) (by omega) (by omega)
    rw [nv_4] at this
    exact this)
  have HVD := Lib.hid (HV1.out.gr (Ch.refl _ w1).drew)
  have hcase : (X ≤ 228 ∧ L = X) ∨ (¬ X ≤ 228 ∧ (228 : Int) = (L : Int)) := by
    by_cases hq : X ≤ 228
    · exact Or.inl ⟨hq, HMIN.out.1 hq⟩
    · exact Or.inr ⟨hq, by rw [HMIN.out.2 hq]; rfl⟩
  clear HMIN
  obtain ⟨J, hJ⟩ : ∃ J, J = 24 + L := ⟨_, rfl⟩
  have e1 : IntKind.i64.wrap (24 + (L : Int)) = (J : Int) := by rw [IntKind.wrap_i64]; omega
  have j1 : (24 : Int) ≤ (J : Int) := by omega
  have j2 : (J : Int) ≤ (C : Int) := by omega
  have HCC := Lib.hid (show ¬ C = 24 by omega)
  have HJ := Lib.hid (show J - 24 = L by omega)
  have HBR := Lib.hid (show RowV w1.drew (.slice (some ⟨b, o + 24, none⟩) L (C - 24)) L (bodyZ z) from row_front (row_tail HVD.out (show 24 ≤ 256 by omega)) (by omega))
  clear hJ
  rcases hcase with ⟨hq, rfl⟩ | ⟨hq, hL⟩
  rotate_left
  have HLL := Lib.hid hL
  clear hL
  go_wp2
  rw [HLL.out]
  rotate_left
  go_wp2
  all_goals (
    go_still_tail 14, (by kernel_rfl)
    still_call (HS1.out)
    repeat still_step
    still_call (HS4.out 4 (by omega))
    repeat still_step
    still_call (HS4.out 8 (by omega))
    repeat still_step
    still_call (HS4.out 12 (by omega))
    repeat still_step
    still_call (HS4.out 16 (by omega))
    repeat still_step
    refine wpStill_nil ?_
    change wpList _ _ _ _ _ w1.drew
    rw [if_neg HCC.out, HJ.out]
    go_wp2_with fail
    refine (clone_any _ L _ (bodyZ z) _ HBR.out (by omega)).mono ?_
    rintro e w2 ⟨v, rfl, ho2, hc2⟩
    obtain ⟨A2, C2, rfl⟩ := own_slice ho2
    obtain ⟨w3, h3⟩ := stR (b := readB (.slice A2 L C2) z) ((hc2.block H (blk_lt (o := .cells (bkC bk0) 61 (0, 0)) HZ.out.cx) (fun f => f)).trans HZ.out.cx) ⟨_, _, _, rfl⟩
    have HP := Lib.hid (show ReadBP z w (.returned (.agg (bkC (readB (.slice A2 L C2) z)))) w3 from by
      have hcw : Ch (fun _ => False) w w2 := (HZ.out.ch.drew).trans hc2
      have hH : w.heap.size ≤ H := by rw [HZ.out.sz]; exact Nat.le_refl _
      have hH1 : H < w1.heap.size := blk_lt HZ.out.cx
      rw [HL.out] at ho2 ⊢
      refine ⟨A2, C2, rfl, ownsRow_low (base := w1.drew.heap.size) ?_ HZ.out.ch.drew.size, hcw.over h3.ch hH⟩
      exact own_of ho2 (fun i hi => h3.ch.block i (World.ownsRow.lt ho2 i hi).2 (fun e => by
        have h5 := (World.ownsRow.lt ho2 i hi).1
        have h6 : w1.drew.heap.size = w1.heap.size := rfl
        omega)))
    have H3 := Lib.hid h3
    clear ho2 hc2 h3
    go_wp2_with ((with_reducible refine wpList_isOp (.store 61 (.tmp 2) (.tmp 22)) rfl ?_); refine wpList_storing _ w3 rfl 61 (.tmp 2) (.tmp 22) rfl (.agg (bkC (readB (.slice A2 L C2) z))) ⟨H, 0, none⟩ rfl rfl (by exact H3.out.st) ?_)
    exact bodyPost_ret (v := .agg (bkC (readB (.slice A2 L C2) z))) (results_cell_row Try.results80 _ _ H 61 (bkC (readB (.slice A2 L C2) z)) (0, 0) _ rfl H3.out.cx Try.underlying61 rfl (info_bk _)) rfl HP.out)
#print axioms bread_any
end Go.Proofs.Ytjdknebifcdicaa
namespace Go.Proofs.Ytjdknebifcdicaa
open Go.RowKit
set_option linter.unusedVariables false
set_option maxRecDepth 100000

def openB (n : Nat) (z : Nat → Nat) (V : Value) : Bk := if opensB n z then readB V z else bk0
def OpenPost (n : Nat) (z : Nat → Nat) (w : World) (e : Ending) (w' : World) : Prop :=
  ∃ V, e = .returned (.tuple #[.agg (bkC (openB n z V)), .int .i64 (openQ n z)]) ∧ BkIs w' (openB n z V) ∧ Ch (fun _ => False) w w'
theorem bk0_is (w : World) : BkIs w bk0 := by
  have h : N64 0 := by unfold N64; omega
  exact ⟨h, h, h, h, h, nil_row _ _⟩
theorem numZ_64 {z : Nat → Nat} {a n : Nat} (hz : Bytes n z) (ha : a + 4 ≤ n) : N64 (numZ z a) := by
  have := Crc.le4_lt (hz a (by omega)) (hz (a + 1) (by omega)) (hz (a + 2) (by omega)) (hz (a + 3) (by omega))
  unfold N64 numZ
  omega
theorem readB_is {w : World} {A : Option Addr} {C : Nat} {z : Nat → Nat} (hz : Bytes 256 z) (h : RowV w (.slice A (rdLen z) C) (rdLen z) (bodyZ z)) : BkIs w (readB (.slice A (rdLen z) C) z) := by
  refine ⟨?_, numZ_64 hz (by omega), numZ_64 hz (by omega), numZ_64 hz (by omega), numZ_64 hz (by omega), h⟩
  have := hz 2 (by omega)
  show N64 (z 2 : Int)
  unfold N64
  omega
theorem openE_long {n : Nat} (z : Nat → Nat) (h : n ≠ 256) : openQ n z = 1 := by unfold openQ; rw [if_neg h]
theorem opensB_long {n : Nat} (z : Nat → Nat) (h : n ≠ 256) : opensB n z = false := by unfold opensB; rw [decide_eq_false h, Bool.false_and]
theorem openE_at (z : Nat → Nat) : openQ 256 z = if opensB 256 z then 0 else 7 := by unfold openQ; rw [if_pos rfl]
theorem opensB_at (z : Nat → Nat) : opensB 256 z = (mayB (readB undef z) && eqB 256 256 (sectZ (readB undef z)) z) := by unfold opensB; rw [decide_eq_true rfl, Bool.true_and]
theorem openB_no {n : Nat} {z : Nat → Nat} (h : opensB n z = false) (V : Value) : openB n z V = bk0 := by unfold openB; rw [h]; rfl
theorem openB_yes {n : Nat} {z : Nat → Nat} (h : opensB n z = true) (V : Value) : openB n z V = readB V z := by unfold openB; rw [if_pos h]
theorem openPost_no {n : Nat} {z : Nat → Nat} {w w' : World} {x : Int} (h : opensB n z = false) (hx : openQ n z = x) (hc : Ch (fun _ => False) w w') : OpenPost n z w (.returned (.tuple #[.agg (bkC bk0), .int .i64 x])) w' :=
  ⟨undef, by rw [openB_no h, hx], by rw [openB_no h]; exact bk0_is _, hc⟩
theorem openPost_yes {n : Nat} {z : Nat → Nat} {w w' : World} {V : Value} (h : opensB n z = true) (hx : openQ n z = 0) (hb : BkIs w' (readB V z)) (hc : Ch (fun _ => False) w w') : OpenPost n z w (.returned (.tuple #[.agg (bkC (readB V z)), .int .i64 0])) w' :=
  ⟨V, by rw [openB_yes h, hx], by rw [openB_yes h]; exact hb, hc⟩
theorem bk0_V : ∃ A n C, bk0.V = .slice A n C := ⟨_, _, _, rfl⟩
set_option maxHeartbeats 1600000 in
set_option maxRecDepth 100000 in
theorem open_long (A : Option Addr) (n C : Nat) (z : Nat → Nat) (w : World) (hn : n ≤ 140737488351232) (h : n ≠ 256) : Calls Try.prog 55 #[.slice A n C] w (OpenPost n z w) := by
  obtain ⟨w1, H, hZ⟩ := zeR w
  obtain ⟨w2, h2⟩ := stR (b := bk0) hZ.cx bk0_V
  have HP := Lib.hid (openPost_no (w := w) (w' := w2) (opensB_long z h) (openE_long z h) (hZ.ch.over h2.ch (by rw [hZ.sz]; exact Nat.le_refl _)))
  have HZ := Lib.hid hZ
  have H2 := Lib.hid h2
  have t1 : ((n : Int) != 256) = true := by simp; omega
  clear hZ h2 h
  go_enter Try.func55, Try.ntmps55
  go_wp2_with (first
    | ((with_reducible refine wpList_isOp (.alloc 61) rfl ?_); refine wpList_making _ w1 rfl 61 rfl (bkC bk0) H (zero_bk _) (by exact HZ.out.sz) (by exact HZ.out.al) ?_)
    | ((with_reducible refine wpList_isOp (.store 61 (.tmp 2) (.tmp 10)) rfl ?_); refine wpList_storing _ w2 rfl 61 (.tmp 2) (.tmp 10) rfl (.agg (bkC bk0)) ⟨H, 0, none⟩ rfl rfl (by exact H2.out.st) ?_))
  exact bodyPost_ret (v := .tuple #[.agg (bkC bk0), .int .i64 1]) (results_bk Try.results55 _ _ H bk0 rfl H2.out.cx) rfl HP.out
#print axioms open_long
set_option maxHeartbeats 3200000 in
set_option maxRecDepth 100000 in
theorem open_at (A : Option Addr) (C : Nat) (z : Nat → Nat) (w : World) (h : RowV w (.slice A 256 C) 256 z) : Calls Try.prog 55 #[.slice A 256 C] w (OpenPost 256 z w) := by
  obtain ⟨w1, H, hZ⟩ := zeR w
  have HZ := Lib.hid hZ
  have HV1 := Lib.hid (h.gr hZ.ch)
  have HBY := Lib.hid h.bytes
  have t1 : ((256 : Int) != 256) = false := by simp
  clear hZ h
  go_enter Try.func55, Try.ntmps55
  go_wp2_with ((with_reducible refine wpList_isOp (.alloc 61) rfl ?_); refine wpList_making _ w1 rfl 61 rfl (bkC bk0) H (zero_bk _) (by exact HZ.out.sz) (by exact HZ.out.al) ?_)
  refine (bread_any A C z _ HV1.out).mono ?_
  rintro e w2 ⟨A2, C2, rfl, ho2, hc2⟩
  obtain ⟨r, hr⟩ : ∃ r, r = readB (.slice A2 (rdLen z) C2) z := ⟨_, rfl⟩
  have hrV : r.V = .slice A2 r.len C2 := by rw [hr]; rfl
  have hrow2 := ownsRow_rowV ho2 (by have := readL_le z; omega) (fun c hc => HBY.out _ (by have := readL_le z; omega))
  have hr2 : BkIs w2 r := by rw [hr]; exact readB_is HBY.out hrow2
  obtain ⟨w3, H3, hZ3⟩ := zeR w2
  obtain ⟨w4, h4⟩ := stR (b := r) hZ3.cx ⟨_, _, _, hrV⟩
  have hc4 : Ch (fun _ => False) w2 w4 := hZ3.ch.over h4.ch (by rw [hZ3.sz]; exact Nat.le_refl _)
  have HR4 := Lib.hid (hr2.gr hc4)
  have HL4 := Lib.hid (load_bk h4.cx)
  have HZ3 := Lib.hid hZ3
  have H4 := Lib.hid h4
  have HC14 := Lib.hid (hc2.trans hc4)
  have HV4 := Lib.hid (HV1.out.gr (hc2.trans hc4))
  have HRV := Lib.hid hrV
  have HSE := Lib.hid (show mayB (readB undef z) = mayB r by rw [hr]; rfl)
  have HSZ := Lib.hid (show sectZ (readB undef z) = sectZ r by rw [hr]; rfl)
  have HRD := Lib.hid hr
  have HO4 := Lib.hid (show w4.ownsRow w1.heap.size /-t-/5 1 (.slice A2 r.len C2) r.len (bytesL r.len r.z) by
    rw [hr]
    exact ownsRow_ch ho2 hc4)
  rw [← hr]
  clear ho2 hc2 hrow2 hr2 hZ3 h4 hc4 hrV hr
  go_wp2_with (first
    | ((with_reducible refine wpList_isOp (.alloc 61) rfl ?_); refine wpList_making _ w3 rfl 61 rfl (bkC bk0) H3 (zero_bk _) (by exact HZ3.out.sz) (by exact HZ3.out.al) ?_)
    | ((with_reducible refine wpList_isOp (.store 61 (.tmp 4) (.tmp 12)) rfl ?_); refine wpList_storing _ w4 rfl 61 (.tmp 4) (.tmp 12) rfl (.agg (bkC r)) ⟨H3, 0, none⟩ rfl rfl (by exact H4.out.st) ?_)
    | ((with_reducible refine wpList_isOp (.load 61 (.tmp 4)) rfl ?_); refine wpList_loading _ rfl 61 (.tmp 4) rfl (.agg (bkC r)) ⟨H3, 0, none⟩ rfl (by exact HL4.out) ?_))
  refine (bseal_any r A2 C2 _ HRV.out HR4.out).mono ?_
  rintro e w5 ⟨A5, C5, rfl, ho5, hc5⟩
  have HC15 := Lib.hid (HC14.out.trans hc5)
  have hcx1 : w5.heap[H]? = some (.cells (bkC bk0) 61 (0, 0)) := (HC15.out.block H (blk_lt (o := .cells (bkC bk0) 61 (0, 0)) HZ.out.cx) (fun f => f)).trans HZ.out.cx
  have hcx4 : w5.heap[H3]? = some (.cells (bkC r) 61 (0, 0)) := (hc5.block H3 (blk_lt (o := .cells (bkC r) 61 (0, 0)) H4.out.cx) (fun f => f)).trans H4.out.cx
  have HL5 := Lib.hid (load_bk hcx4)
  have HV5 := Lib.hid (HV4.out.gr hc5)
  have HRb := Lib.hid (HR4.out.gr hc5)
  obtain ⟨wn, hn⟩ := stR (b := bk0) hcx1 bk0_V
  obtain ⟨wy, hy⟩ := stR (b := r) hcx1 ⟨_, _, _, HRV.out⟩
  have hH : w.heap.size ≤ H := by rw [HZ.out.sz]; exact Nat.le_refl _
  have HN := Lib.hid hn
  have HY := Lib.hid hy
  have HPN := Lib.hid (show opensB 256 z = false → OpenPost 256 z w (.returned (.tuple #[.agg (bkC bk0), .int .i64 7])) wn from fun q =>
    openPost_no q (by rw [openE_at, q]; rfl) ((HZ.out.ch.trans HC15.out).over hn.ch hH))
  have HPY := Lib.hid (show opensB 256 z = true → OpenPost 256 z w (.returned (.tuple #[.agg (bkC r), .int .i64 0])) wy from fun q => by
    have hb : BkIs wy r := by
      have hb5 := HRb.out
      have ho5y := ownsRow_ch HO4.out hc5
      have hoy : wy.ownsRow w1.heap.size /-t-/5 1 (.slice A2 r.len C2) r.len (bytesL r.len r.z) := own_of ho5y (fun i hi => hy.ch.block i (World.ownsRow.lt ho5y i hi).2 (fun e => by
        have h5 := (World.ownsRow.lt ho5y i hi).1
        have h6 := blk_lt (o := .cells (bkC bk0) 61 (0, 0)) HZ.out.cx
        omega))
      refine ⟨hb5.kind, hb5.vol, hb5.addr, hb5.epoch, hb5.seq, ?_⟩
      rw [HRV.out]
      exact ownsRow_rowV hoy (by
        obtain ⟨_, _, _, hh, _⟩ := hb5.row
        exact hh.1) hb5.row.bytes
    rw [HRD.out] at hb ⊢
    exact openPost_yes q (by rw [openE_at, q]; rfl) hb ((HZ.out.ch.trans HC15.out).over hy.ch hH))
  have HAT := Lib.hid (show opensB 256 z = (mayB r && eqB 256 256 (sectZ r) z) by rw [opensB_at, HSE.out, HSZ.out])
  have HSB := Lib.hid (show Bytes 256 (sectZ r) from sectZ_b HRb.out.row.bytes 256)
  by_cases hm : mayB r = true
  · have hN : sealN r = 256 := by unfold sealN; rw [hm]; rfl
    have hE : sealE r = 0 := of_decide_eq_true (by rw [← sealE_may]; exact hm)
    rw [hN] at ho5
    have HS5 := Lib.hid (ownsRow_rowV ho5 (by omega) HSB.out)
    have HQ := Lib.hid (show opensB 256 z = eqB 256 256 (sectZ r) z by rw [HAT.out, hm, Bool.true_and])
    rw [hN, hE]
    obtain ⟨q, hq⟩ : ∃ q, q = eqB 256 256 (sectZ r) z := ⟨_, rfl⟩
    have HEQ := Lib.hid hq
    rw [← hq] at HQ
    clear ho5 hc5 hn hy hcx1 hcx4 hN hE hm hq
    go_wp2_with fail
    refine (equal_any _ _ 256 256 _ _ _ _ _ HS5.out HV5.out).mono ?_
    rintro e w6 ⟨rfl, rfl⟩
    rw [← HEQ.out]
    cases q
    · go_wp2_with ((with_reducible refine wpList_isOp (.store 61 (.tmp 2) (.tmp 26)) rfl ?_); refine wpList_storing _ wn rfl 61 (.tmp 2) (.tmp 26) rfl (.agg (bkC bk0)) ⟨H, 0, none⟩ rfl rfl (by exact HN.out.st) ?_)
      exact bodyPost_ret (v := .tuple #[.agg (bkC bk0), .int .i64 7]) (results_bk Try.results55 _ _ H bk0 rfl HN.out.cx) rfl (HPN.out HQ.out)
    · go_wp2_with (first
        | ((with_reducible refine wpList_isOp (.load 61 (.tmp 4)) rfl ?_); refine wpList_loading _ rfl 61 (.tmp 4) rfl (.agg (bkC r)) ⟨H3, 0, none⟩ rfl (by exact HL5.out) ?_)
        | ((with_reducible refine wpList_isOp (.store 61 (.tmp 2) (.tmp 27)) rfl ?_); refine wpList_storing _ wy rfl 61 (.tmp 2) (.tmp 27) rfl (.agg (bkC r)) ⟨H, 0, none⟩ rfl rfl (by exact HY.out.st) ?_))
      exact bodyPost_ret (v := .tuple #[.agg (bkC r), .int .i64 0]) (results_bk Try.results55 _ _ H r rfl HY.out.cx) rfl (HPY.out HQ.out)
  · have hm : mayB r = false := by simpa using hm
    have HQ := Lib.hid (show opensB 256 z = false by rw [HAT.out, hm, Bool.false_and])
    have hE : sealE r ≠ 0 := fun e => by
      have := sealE_may (b := r)
      rw [hm, e] at this
      cases this
    obtain ⟨E, hEE⟩ : ∃ E, E = sealE r := ⟨_, rfl⟩
    rw [← hEE] at hE ⊢
    have t2 : (E != 0) = true := by simpa using hE
    clear ho5 hc5 hn hy hcx1 hcx4 hm hE hEE
    go_wp2_with ((with_reducible refine wpList_isOp (.store 61 (.tmp 2) (.tmp 26)) rfl ?_); refine wpList_storing _ wn rfl 61 (.tmp 2) (.tmp 26) rfl (.agg (bkC bk0)) ⟨H, 0, none⟩ rfl rfl (by exact HN.out.st) ?_)
    exact bodyPost_ret (v := .tuple #[.agg (bkC bk0), .int .i64 7]) (results_bk Try.results55 _ _ H bk0 rfl HN.out.cx) rfl (HPN.out HQ.out)
#print axioms open_at
theorem bopen_any (A : Option Addr) (n C : Nat) (z : Nat → Nat) (w : World) (h : RowV w (.slice A n C) n z) : Calls Try.prog 55 #[.slice A n C] w (OpenPost n z w) := by
  by_cases e : n = 256
  · subst e; exact open_at A C z w h
  · obtain ⟨_, _, _, h2, _⟩ := id h
    exact open_long A n C z w h2.1 e
#print axioms bopen_any
end Go.Proofs.Ytjdknebifcdicaa
namespace Go.Proofs.Ytjdknebifcdicaa
open Go.RowKit
set_option linter.unusedVariables false
set_option maxRecDepth 100000

def classQ (q1 q2 q3 q4 q5 : Bool) : Int := if q1 || q2 then 3 else if q3 || q4 || q5 then 2 else 1
theorem classOf_no {n : Nat} {z : Nat → Nat} {want : Bk} (h : opensB n z = false) : classOf n z want = 4 := by unfold classOf; rw [h]; rfl
theorem classOf_yes {n : Nat} {z : Nat → Nat} {want o : Bk} (h : opensB n z = true) (V : Value) (ho : o = readB V z) : classOf n z want = classQ (o.vol != want.vol) (o.addr != want.addr) (o.kind != want.kind) (o.epoch != want.epoch) (o.seq != want.seq) := by
  subst ho
  unfold classOf classQ
  rw [if_pos h]
  show (if (readB V z).vol = want.vol ∧ (readB V z).addr = want.addr then _ else _) = _
  by_cases h1 : (readB V z).vol = want.vol
  · by_cases h2 : (readB V z).addr = want.addr
    · rw [if_pos ⟨h1, h2⟩]
      show (if (readB V z).kind = want.kind ∧ (readB V z).epoch = want.epoch ∧ (readB V z).seq = want.seq then _ else _) = _
      by_cases h3 : (readB V z).kind = want.kind
      · by_cases h4 : (readB V z).epoch = want.epoch
        · by_cases h5 : (readB V z).seq = want.seq
          · rw [if_pos ⟨h3, h4, h5⟩]; simp [h1, h2, h3, h4, h5]
          · rw [if_neg (fun q => h5 q.2.2)]; simp [h1, h2, h3, h4, h5]
        · rw [if_neg (fun q => h4 q.2.1)]; simp [h1, h2, h3, h4]
      · rw [if_neg (fun q => h3 q.1)]; simp [h1, h2, h3]
    · rw [if_neg (fun q => h2 q.2)]; simp [h1, h2]
  · rw [if_neg (fun q => h1 q.1)]; simp [h1]
theorem openE_zero {n : Nat} {z : Nat → Nat} : openQ n z = 0 ↔ opensB n z = true := by
  unfold openQ
  by_cases h : n = 256
  · subst h
    rw [if_pos rfl]
    cases opensB 256 z <;> simp
  · rw [if_neg h, opensB_long z h]
    simp
end Go.Proofs.Ytjdknebifcdicaa
namespace Go.Proofs.Ytjdknebifcdicaa
open Go.RowKit
set_option linter.unusedVariables false
set_option maxRecDepth 100000

/-- The first k of four bytes from a on have been changed. -/
def fewZ (z y : Nat → Nat) (a k c : Nat) : Nat := if a ≤ c ∧ c < a + k then z c ^^^ y (c - a) else z c
def fewB (y : Nat → Nat) : Nat → Bool
  | 0 => false
  | k + 1 => fewB y k || (y k != 0)
theorem fewZ_none (z y : Nat → Nat) (a c : Nat) : fewZ z y a 0 c = z c := by unfold fewZ; rw [if_neg (by omega)]
theorem fewZ_at (z y : Nat → Nat) (a k : Nat) : fewZ z y a k (a + k) = z (a + k) := by unfold fewZ; rw [if_neg (by omega)]
theorem fewZ_step (z y : Nat → Nat) (a k c : Nat) : fewZ z y a (k + 1) c = if c = a + k then z (a + k) ^^^ y k else fewZ z y a k c := by
  unfold fewZ
  by_cases e : c = a + k
  · subst e; rw [if_pos (by omega), if_pos rfl, Nat.add_sub_cancel_left]
  · rw [if_neg e]
    by_cases q : a ≤ c ∧ c < a + k
    · rw [if_pos (by omega), if_pos q]
    · rw [if_neg (by omega), if_neg q]
theorem fewZ_b {z y : Nat → Nat} {a k n : Nat} (hz : Bytes n z) (hy : Bytes 4 y) (hk : k ≤ 4) : Bytes n (fewZ z y a k) := fun c hc => by
  unfold fewZ; split
  · exact Crc.xor_lt8 (hz c hc) (hy _ (by omega))
  · exact hz c hc
theorem fewB_four (y : Nat → Nat) : fewB y 4 = false ↔ y 0 = 0 ∧ y 1 = 0 ∧ y 2 = 0 ∧ y 3 = 0 := by
  simp [fewB, and_assoc]
theorem few_whole {n a : Nat} {z y : Nat → Nat} (hz : Bytes n z) (hy : Bytes 4 y) (ha : a ≤ n) : Crc.wholeB (n + 4) (fewZ (Crc.sealZ n z) y a 4) = !fewB y 4 := by
  obtain ⟨d, hd⟩ : ∃ d : Nat → Nat, d = fun c => if a ≤ c ∧ c < a + 4 then y (c - a) else 0 := ⟨_, rfl⟩
  have e : ∀ c, d c = if a ≤ c ∧ c < a + 4 then y (c - a) else 0 := fun c => by rw [hd]
  have d4 : ∀ j, j < 4 → d (a + j) = y j := fun j hj => by rw [e, if_pos (by omega), Nat.add_sub_cancel_left]
  have key := Crc.few (n := n) (at' := a) (z := z) (d := d) hz
    (fun i => by
      rw [e]; split
      · exact hy _ (by omega)
      · omega) ha (fun i hi => by rw [e, if_neg (by omega)])
  have d0 := d4 0 (by omega)
  rw [Nat.add_zero] at d0
  rw [d0, d4 1 (by omega), d4 2 (by omega), d4 3 (by omega), ← fewB_four] at key
  have e2 : Crc.wholeB (n + 4) (fewZ (Crc.sealZ n z) y a 4) = Crc.wholeB (n + 4) (fun i => Crc.sealZ n z i ^^^ d i) := Crc.wholeB_congr fun i _ => by
    unfold fewZ
    rw [e]
    split
    · rfl
    · rw [Nat.xor_zero]
  rw [e2]
  unfold Crc.wholeB
  cases hb : fewB y 4
  · exact decide_eq_true (key.2 hb)
  · exact decide_eq_false fun h => by rw [key.1 h] at hb; cases hb
theorem arr_at {y : Nat → Nat} {n j : Nat} (h : j < n) : (arrV n y)[j]? = some (.int .u8 (y j : Int)) := by
  have : (arrV n y)[j]? = (bytesL n y)[j]? := by unfold arrV; simp
  rw [this, bytesL_get h]
theorem xor_at {a b : Nat} (ha : a < 256) (hb : b < 256) : bits .xor .u8 (a : Int) (b : Int) = ((a ^^^ b : Nat) : Int) := u8_xor_nat a b ha hb
theorem wrap_small {x : Int} (h : 0 ≤ x) (h2 : x ≤ 4294967296) : IntKind.i64.wrap x = x := by rw [IntKind.wrap_i64]; omega
structure FewRel (w : World) (g n C : Nat) (z y : Nat → Nat) (a k : Nat) (wr : World) : Prop where
  own : wr.ownsRow w.heap.size /-t-/5 1 (.slice (some ⟨g, 0, none⟩) n C) n (bytesL n (fewZ z y a k))
  ch : Ch (fun _ => False) w wr
theorem FewRel.base_le {w : World} {g n C : Nat} {z y : Nat → Nat} {a k : Nat} {wr : World} (h : FewRel w g n C z y a k wr) : w.heap.size ≤ g := (World.ownsRow.lt h.own g rfl).1
theorem FewRel.drew {w : World} {g n C : Nat} {z y : Nat → Nat} {a k : Nat} {wr : World} (h : FewRel w g n C z y a k wr) : FewRel w g n C z y a k wr.drew := ⟨ownsRow_ch h.own (Ch.refl _ _).drew, h.ch.drew⟩
theorem FewRel.step {w : World} {g n C : Nat} {z y : Nat → Nat} {a k : Nat} {wr : World} (h : FewRel w g n C z y a k wr) :
    FewRel w g n C z y a (k + 1) (wr.setCell ⟨g, a + k, none⟩ (.int .u8 ((z (a + k) ^^^ y k : Nat) : Int))) := by
  refine ⟨?_, h.ch.setCell (p := ⟨g, a + k, none⟩) (Or.inr h.base_le) _⟩
  have := (World.ownsRow.stored h.own (a + k) (.int .u8 ((z (a + k) ^^^ y k : Nat) : Int))).1
  rw [bytesL_set] at this
  rw [bytesL_congr fun c _ => fewZ_step z y a k c]
  exact this
#print axioms few_whole
end Go.Proofs.Ytjdknebifcdicaa
