/-
  block.read and Open, walked.
-/
import Derived.Test.YtennkpjmdhidaaaBlkF
import Derived.Laws.ResultCell
import Derived.StillTailTactics
namespace Go.Proofs.Ytennkpjmdhidaaa
open Go.RowKit
set_option linter.unusedVariables false

/-! ### a block in a variable -/
theorem bkC_one {b : Bk} (h : ∃ A n C, b.V = .slice A n C) : (bkC b).all (·.oneCell') = true := by
  obtain ⟨A, n, C, h⟩ := h
  unfold bkC
  rw [h]
  simp [Value.oneCell']
theorem bkC_size (b : Bk) : (bkC b).size = 6 := rfl
theorem info_bk (b : Bk) : (Try.prog.info? 24).map (·.size) = some (bkC b).size := by
  show _ = some 6
  kernel_rfl
theorem zero_bk (w : World) : (zeroValue 24).run Try.prog w = .ok (.agg (bkC bk0)) w := Try.zeroValue24 w
/-- A zero block in a variable of its own. -/
structure ZeR (w w1 : World) (H : Nat) : Prop where
  al : w.alloc (.cells (bkC bk0) 24) = w1
  sz : w.heap.size = H
  cx : w1.heap[H]? = some (.cells (bkC bk0) 24 (0, 0))
  ch : Ch (fun _ => False) w w1
theorem zeR (w : World) : ∃ w1 H, ZeR w w1 H := ⟨_, _, rfl, rfl, heap_alloc_new w _, (Ch.refl _ w).alloc _ _⟩
/-- A block laid over what is in a variable. -/
theorem store_bk {w : World} {H : Nat} {a b : Bk} (h : w.heap[H]? = some (.cells (bkC a) 24 (0, 0))) (hb : ∃ A n C, b.V = .slice A n C) :
    (storeVar 24 ⟨H, 0, none⟩ (.agg (bkC b))).run Try.prog w = .ok () (w.setRow H (bkC b)) :=
  run_storeVar_row w H _ _ (bkC a) (bkC b) h (info_bk b) rfl (bkC_one hb)
structure StR (w w1 : World) (H : Nat) (b : Bk) : Prop where
  st : (storeVar 24 ⟨H, 0, none⟩ (.agg (bkC b))).run Try.prog w = .ok () w1
  cx : w1.heap[H]? = some (.cells (bkC b) 24 (0, 0))
  ch : Ch (fun j => j = H) w w1
theorem stR {w : World} {H : Nat} {a b : Bk} (h : w.heap[H]? = some (.cells (bkC a) 24 (0, 0))) (hb : ∃ A n C, b.V = .slice A n C) : ∃ w1, StR w w1 H b :=
  ⟨_, store_bk h hb, setRow_heap w H (bkC a) _ _ (0, 0) h, (Ch.refl (fun j => j = H) w).setRow (g := H) (Or.inl rfl) _⟩
theorem Ch.over {w0 w w1 : World} {H : Nat} (h : Ch (fun _ => False) w0 w) (k : Ch (fun j => j = H) w w1) (hH : w0.heap.size ≤ H) : Ch (fun _ => False) w0 w1 :=
  h.new (k.mono fun i _ e => by
    subst e
    exact hH)
theorem results_bk {fn : Func} {p u : Tmp} (h : fn.results = #[.cell p 24, .tmp u]) (tmps : Array Value) (w : World) (H : Nat) (b : Bk) (hp : tmps.getD p undef = .pointer (some ⟨H, 0, none⟩)) (hg : w.heap[H]? = some (.cells (bkC b) 24 (0, 0))) :
    (results fn tmps).run Try.prog w = .ok (.tuple #[.agg (bkC b), tmps.getD u undef]) w := by
  rw [results_cell_tmp h, hp]
  simp [asAddr, load_bk hg]
#print axioms results_bk

/-! ### read -/
def readL (z : Nat → Nat) : Nat := if longZ z ≤ 228 then longZ z else 228
def bodyZ (z : Nat → Nat) (c : Nat) : Nat := z (24 + c)
theorem readB_len (V : Value) (z : Nat → Nat) : (readB V z).len = readL z := rfl
def ReadBP (z : Nat → Nat) (w : World) (e : Ending) (w' : World) : Prop :=
  ∃ A C, e = .returned (.agg (bkC (readB (.slice A (readL z) C) z))) ∧ w'.ownsRow w.heap.size /-t-/5 1 (.slice A (readL z) C) (readL z) (bytesL (readL z) (bodyZ z)) ∧ Ch (fun _ => False) w w'
theorem readL_le (z : Nat → Nat) : readL z ≤ 228 := by unfold readL; split <;> omega
theorem own_slice {w : World} {base n : Nat} {v : Value} {xs : List Value} (h : w.ownsRow base /-t-/5 1 v n xs) : ∃ A C, v = .slice A n C := by
  rcases h.2 with ⟨rfl, h0⟩ | ⟨g, cap, cur, rfl, _⟩
  · subst h0; exact ⟨_, _, rfl⟩
  · exact ⟨_, _, rfl⟩
set_option maxHeartbeats 1600000 in
set_option maxRecDepth 100000 in
theorem read_any (A : Option Addr) (C : Nat) (z : Nat → Nat) (w : World) (h : RowV w (.slice A 256 C) 256 z) : Calls Try.prog 25 #[.slice A 256 C] w (ReadBP z w) := by
  obtain ⟨w1, H, hZ⟩ := zeR w
  have HZ := Lib.hid hZ
  have HV1 := Lib.hid (h.gr hZ.ch)
  have HLE := Lib.hid (readL_le z)
  obtain ⟨b, o, rfl, _⟩ := h.at (by omega)
  obtain ⟨L, hL⟩ : ∃ L, L = readL z := ⟨_, rfl⟩
  have HL := Lib.hid hL
  have hLb : L ≤ 228 := by rw [hL]; exact readL_le z
  have hCb : 256 ≤ C := by obtain ⟨_, _, e, h2, _⟩ := h; injection e with _ _ e; rw [e]; exact h2.2
  have HN2 := Lib.hid (show nv z 20 2 = longZ z from nv_2 z 20)
  have HMIN := Lib.hid (show (longZ z ≤ 228 → L = longZ z) ∧ (¬ longZ z ≤ 228 → L = 228) from ⟨fun q => by rw [hL]; unfold readL; rw [if_pos q], fun q => by rw [hL]; unfold readL; rw [if_neg q]⟩)
  clear hZ h hL
  go_enter Try.func25, Try.ntmps25
  go_wp2_with ((with_reducible refine wpList_isOp (.alloc 24) rfl ?_); refine wpList_making _ w1 rfl 24 rfl (bkC bk0) H (zero_bk _) (by exact HZ.out.sz) (by exact HZ.out.al) ?_)
  refine (number_any _ 256 _ 20 2 z _ HV1.out (by omega) (by omega) (by omega)).mono ?_
  rintro e w2 ⟨rfl, rfl⟩
  rw [HN2.out]
  have hXb : longZ z ≤ 65791 := by
    have h0 := HV1.out.bytes 20 (by omega)
    have h1 := HV1.out.bytes 21 (by omega)
    unfold longZ
    omega
  obtain ⟨X, hX⟩ : ∃ X, X = longZ z := ⟨_, rfl⟩
  rw [← hX] at HMIN hXb ⊢
  clear hX
  have HS1 := Lib.hid (show Calls Try.prog 33 #[.slice (some ⟨b, o, none⟩) 256 C, .int .i64 2, .int .i64 1] w1.drew fun e w' => e = .returned (.int .i64 (z 2 : Int)) ∧ w' = w1.drew from by
    have := number_still (some ⟨b, o, none⟩) 256 C 2 1 z w1.drew (HV1.out.gr (Ch.refl _ w1).drew) (by omega) (by omega) (by omega)
    rw [nv_1] at this
    exact this)
  have HS4 := Lib.hid (show ∀ a : Nat, a + 4 ≤ 256 → Calls Try.prog 33 #[.slice (some ⟨b, o, none⟩) 256 C, .int .i64 (a : Int), .int .i64 4] w1.drew fun e w' => e = .returned (.int .i64 (numZ z a : Int)) ∧ w' = w1.drew from fun a ha => by
    have := number_still (some ⟨b, o, none⟩) 256 C a 4 z w1.drew (HV1.out.gr (Ch.refl _ w1).drew) (by omega) (by omega) (by omega)
    rw [nv_4] at this
    exact this)
  have HVD := Lib.hid (HV1.out.gr (Ch.refl _ w1).drew)
  have hcase : (X ≤ 228 ∧ L = X) ∨ (¬ X ≤ 228 ∧ (228 : Int) = (L : Int)) := by
    by_cases hq : X ≤ 228
    · exact Or.inl ⟨hq, HMIN.out.1 hq⟩
    · exact Or.inr ⟨hq, by rw [HMIN.out.2 hq]; rfl⟩
  clear HMIN
  obtain ⟨J, hJ⟩ : ∃ J, J = 24 + L := ⟨_, rfl⟩
  have e1 : IntKind.i64.wrap (24 + (L : Int)) = (J : Int) := by rw [IntKind.wrap_i64]; omega
  have j1 : (24 : Int) ≤ (J : Int) := by omega
  have j2 : (J : Int) ≤ (C : Int) := by omega
  have HCC := Lib.hid (show ¬ C = 24 by omega)
  have HJ := Lib.hid (show J - 24 = L by omega)
  have HBR := Lib.hid (show RowV w1.drew (.slice (some ⟨b, o + 24, none⟩) L (C - 24)) L (bodyZ z) from row_front (row_tail HVD.out (show 24 ≤ 256 by omega)) (by omega))
  clear hJ
  rcases hcase with ⟨hq, rfl⟩ | ⟨hq, hL⟩
  rotate_left
  have HLL := Lib.hid hL
  clear hL
  go_wp2
  rw [HLL.out]
  rotate_left
  go_wp2
  all_goals (
    go_still_tail 14, (by kernel_rfl)
    still_call (HS1.out)
    repeat still_step
    still_call (HS4.out 4 (by omega))
    repeat still_step
    still_call (HS4.out 8 (by omega))
    repeat still_step
    still_call (HS4.out 12 (by omega))
    repeat still_step
    still_call (HS4.out 16 (by omega))
    repeat still_step
    refine wpStill_nil ?_
    change wpList _ _ _ _ _ w1.drew
    rw [if_neg HCC.out, HJ.out]
    go_wp2_with fail
    refine (clone_any _ L _ (bodyZ z) _ HBR.out (by omega)).mono ?_
    rintro e w2 ⟨v, rfl, ho2, hc2⟩
    obtain ⟨A2, C2, rfl⟩ := own_slice ho2
    obtain ⟨w3, h3⟩ := stR (b := readB (.slice A2 L C2) z) ((hc2.block H (blk_lt (o := .cells (bkC bk0) 24 (0, 0)) HZ.out.cx) (fun f => f)).trans HZ.out.cx) ⟨_, _, _, rfl⟩
    have HP := Lib.hid (show ReadBP z w (.returned (.agg (bkC (readB (.slice A2 L C2) z)))) w3 from by
      have hcw : Ch (fun _ => False) w w2 := (HZ.out.ch.drew).trans hc2
      have hH : w.heap.size ≤ H := by rw [HZ.out.sz]; exact Nat.le_refl _
      have hH1 : H < w1.heap.size := blk_lt HZ.out.cx
      rw [HL.out] at ho2 ⊢
      refine ⟨A2, C2, rfl, ownsRow_low (base := w1.drew.heap.size) ?_ HZ.out.ch.drew.size, hcw.over h3.ch hH⟩
      exact own_of ho2 (fun i hi => h3.ch.block i (World.ownsRow.lt ho2 i hi).2 (fun e => by
        have h5 := (World.ownsRow.lt ho2 i hi).1
        have h6 : w1.drew.heap.size = w1.heap.size := rfl
        omega)))
    have H3 := Lib.hid h3
    clear ho2 hc2 h3
    go_wp2_with ((with_reducible refine wpList_isOp (.store 24 (.tmp 2) (.tmp 22)) rfl ?_); refine wpList_storing _ w3 rfl 24 (.tmp 2) (.tmp 22) rfl (.agg (bkC (readB (.slice A2 L C2) z))) ⟨H, 0, none⟩ rfl rfl (by exact H3.out.st) ?_)
    exact bodyPost_ret (v := .agg (bkC (readB (.slice A2 L C2) z))) (results_cell_row Try.results25 _ _ H 24 (bkC (readB (.slice A2 L C2) z)) (0, 0) _ rfl H3.out.cx Try.underlying24 rfl (info_bk _)) rfl HP.out)
#print axioms read_any
end Go.Proofs.Ytennkpjmdhidaaa
