/-
  block.areWords, numbersMay, May, and the document's numbers and May, walked.
-/
import Derived.Test.YtennkpjmdhidaaaBlkM
namespace Go.Proofs.Ytennkpjmdhidaaa
open Go.RowKit
set_option linter.unusedVariables false

/-! ### areWords -/
def fourV (a b c d : Int) : Array Value := #[.int .i64 a, .int .i64 b, .int .i64 c, .int .i64 d]
def fourI (a b c d : Int) (i : Nat) : Int := [a, b, c, d].getD i 0
def wordsTo (f : Nat → Int) : Nat → Bool
  | 0 => true
  | k + 1 => wordsTo f k && wordB (f k)
theorem wordsTo_false {f : Nat → Int} {k m : Nat} (hk : k < m) (h : wordB (f k) = false) : wordsTo f m = false := by
  induction m with
  | zero => omega
  | succ m ih =>
    show (wordsTo f m && wordB (f m)) = false
    by_cases e : k = m
    · rw [← e, h, Bool.and_false]
    · rw [ih (by omega), Bool.false_and]
theorem four_cell {w : World} {g i : Nat} {a b c d : Int} {t : TypeId} (h : w.heap[g]? = some (.cells (fourV a b c d) t (0, 0))) (hi : i < 4) : w.cell? ⟨g, i, none⟩ = some (.int .i64 (fourI a b c d i)) := by
  rw [blk_cell h]
  match i, hi with
  | 0, _ => rfl
  | 1, _ => rfl
  | 2, _ => rfl
  | 3, _ => rfl
theorem words_four (b : Bk) : wordsTo (fourI b.vol b.addr b.epoch b.seq) 4 = wordsB b := by
  show ((((true && wordB b.vol) && wordB b.addr) && wordB b.epoch) && wordB b.seq) = _
  unfold wordsB
  rw [Bool.true_and, Bool.and_assoc, Bool.and_assoc]
set_option maxHeartbeats 800000 in
theorem areWords_any (g : Nat) (a b c d : Int) (w : World) (h : w.heap[g]? = some (.cells (fourV a b c d) 3 (0, 0))) : Calls Try.prog 28 #[.slice (some ⟨g, 0, none⟩) 4 4] w fun e w' => e = .returned (.bool (wordsTo (fourI a b c d) 4)) ∧ w = w' := by
  have HF := Lib.hid (fun i (hi : i < 4) => four_cell h hi)
  clear h
  obtain ⟨f, hf⟩ : ∃ f, f = fourI a b c d := ⟨_, rfl⟩
  rw [← hf] at HF ⊢
  clear hf
  go_enter Try.func28, Try.ntmps28
  go_wp2
  go_loop [4, 7] (fun _ i => ∃ k : Nat, k ≤ 4 ∧ i = .int .i64 k ∧ Hid (wordsTo f k = true)) (fun _ i => 4 - (intOf i).toNat)
  case atStart => exact ⟨0, Nat.zero_le _, rfl, Lib.hid rfl⟩
  case round =>
    obtain ⟨k, hk, rfl, HK⟩ := hrel
    by_cases hlt : k < 4
    · have c1 := HF.out k hlt
      obtain ⟨x, hx⟩ : ∃ x, x = f k := ⟨_, rfl⟩
      rw [← hx] at c1
      have tk : decide ((k : Int) < 4) = true := by simp; omega
      by_cases q1 : x < 0
      · have HN := Lib.hid (wordsTo_false (f := f) hlt (by rw [← hx]; exact decide_eq_false (by omega)))
        clear hx
        go_wp2
        go_ret
        exact ⟨ret_bool HN.out.symm, rfl⟩
      · by_cases q2 : 4294967295 < x
        · have HN := Lib.hid (wordsTo_false (f := f) hlt (by rw [← hx]; exact decide_eq_false (by omega)))
          clear hx
          go_wp2
          go_ret
          exact ⟨ret_bool HN.out.symm, rfl⟩
        · have HN := Lib.hid (show wordsTo f (k + 1) = true by
            show (wordsTo f k && wordB (f k)) = true
            rw [HK.out, Bool.true_and, ← hx]
            exact decide_eq_true (by omega))
          clear hx
          go_wp2
          go_round
          case rel => exact ⟨k + 1, by omega, by go_num, HN⟩
          case measure => simp [intOf]; omega
    · obtain rfl : k = 4 := by omega
      go_wp2
      go_ret
      exact ⟨ret_bool HK.out.symm, rfl⟩
#print axioms areWords_any

/-! ### a block that is laid into a variable -/
structure BkR (w w1 : World) (H : Nat) (b : Bk) : Prop where
  al : w.alloc (.cells (bkC b) 24) = w1
  sz : w.heap.size = H
  cx : w1.heap[H]? = some (.cells (bkC b) 24 (0, 0))
  ch : Ch (fun _ => False) w w1
theorem bkR (w : World) (b : Bk) : ∃ w1 H, BkR w w1 H b := ⟨_, _, rfl, rfl, heap_alloc_new w _, (Ch.refl _ w).alloc _ _⟩
theorem BkR.at {w w1 : World} {H : Nat} {b : Bk} (h : BkR w w1 H b) (i : Nat) : w1.cell? ⟨H, i, none⟩ = (bkC b)[i]? := blk_cell h.cx
theorem load_bk {w : World} {H : Nat} {b : Bk} (h : w.heap[H]? = some (.cells (bkC b) 24 (0, 0))) : (loadVar 24 ⟨H, 0, none⟩).run Try.prog w = .ok (.agg (bkC b)) w :=
  run_loadVar_row w H _ _ (bkC b) (0, 0) _ h Try.underlying24 rfl (show _ = some 6 by kernel_rfl)
set_option maxHeartbeats 800000 in
theorem numbersMay_any (b : Bk) (w : World) : Calls Try.prog 19 #[.agg (bkC b)] w (Ans (.bool (numB b)) w) := by
  obtain ⟨w1, H, hR⟩ := bkR w b
  have x0 : w1.cell? ⟨H, 0, none⟩ = some (.int .i64 b.kind) := hR.at 0
  have HR := Lib.hid hR
  by_cases q1 : b.kind < 1
  · have HN := Lib.hid (show numB b = false by
      unfold numB kindB
      rw [decide_eq_false (by omega : ¬ (1 ≤ b.kind ∧ b.kind ≤ 4)), Bool.false_and])
    have t1 : decide (1 ≤ b.kind) = false := by simp; omega
    clear hR q1
    go_enter Try.func19, Try.ntmps19
    go_wp2_with ((with_reducible refine wpList_isOp (.box 24 (.tmp 0)) rfl ?_); refine wpList_boxing _ w1 rfl 24 (.tmp 0) rfl (bkC b) H rfl (by exact HR.out.sz) (by exact HR.out.al) ?_)
    go_ret
    exact ⟨ret_bool HN.out.symm, HR.out.ch⟩
  · by_cases q2 : 4 < b.kind
    · have HN := Lib.hid (show numB b = false by
        unfold numB kindB
        rw [decide_eq_false (by omega : ¬ (1 ≤ b.kind ∧ b.kind ≤ 4)), Bool.false_and])
      have t1 : decide (1 ≤ b.kind) = true := by simp; omega
      have t2 : decide (b.kind ≤ 4) = false := by simp; omega
      clear hR q1 q2
      go_enter Try.func19, Try.ntmps19
      go_wp2_with ((with_reducible refine wpList_isOp (.box 24 (.tmp 0)) rfl ?_); refine wpList_boxing _ w1 rfl 24 (.tmp 0) rfl (bkC b) H rfl (by exact HR.out.sz) (by exact HR.out.al) ?_)
      go_ret
      exact ⟨ret_bool HN.out.symm, HR.out.ch⟩
    · have HN := Lib.hid (show numB b = wordsTo (fourI b.vol b.addr b.epoch b.seq) 4 by
        unfold numB kindB
        rw [decide_eq_true (by omega : 1 ≤ b.kind ∧ b.kind ≤ 4), Bool.true_and, words_four])
      have t1 : decide (1 ≤ b.kind) = true := by simp; omega
      have t2 : decide (b.kind ≤ 4) = true := by simp; omega
      have x1 : w1.cell? ⟨H, 1, none⟩ = some (.int .i64 b.vol) := hR.at 1
      have x2 : w1.cell? ⟨H, 2, none⟩ = some (.int .i64 b.addr) := hR.at 2
      have x3 : w1.cell? ⟨H, 3, none⟩ = some (.int .i64 b.epoch) := hR.at 3
      have x4 : w1.cell? ⟨H, 4, none⟩ = some (.int .i64 b.seq) := hR.at 4
      clear hR q1 q2
      go_enter Try.func19, Try.ntmps19
      go_wp2_with (first
        | ((with_reducible refine wpList_isOp (.box 24 (.tmp 0)) rfl ?_); refine wpList_boxing _ w1 rfl 24 (.tmp 0) rfl (bkC b) H rfl (by exact HR.out.sz) (by exact HR.out.al) ?_)
        | (go_at_call 28; refine (areWords_any _ b.vol b.addr b.epoch b.seq _ (heap_alloc_new w1 _)).mono ?_; rintro e w2 ⟨rfl, rfl⟩))
      go_ret
      exact ⟨ret_bool HN.out.symm, HR.out.ch.alloc _ _⟩
#print axioms numbersMay_any

/-! ### May -/
set_option maxHeartbeats 800000 in
theorem may_any (b : Bk) (A : Option Addr) (C : Nat) (w : World) (hV : b.V = .slice A b.len C) (hl : b.len ≤ 140737488351232) : Calls Try.prog 12 #[.agg (bkC b)] w (Ans (.bool (mayB b)) w) := by
  obtain ⟨w1, H, hR⟩ := bkR w b
  have x5 : w1.cell? ⟨H, 5, none⟩ = some (.slice A b.len C) := by rw [← hV]; exact hR.at 5
  have HL := Lib.hid (load_bk hR.cx)
  have HR := Lib.hid hR
  have HN := Lib.hid (show mayB b = (numB b && decide (b.len ≤ 228)) from rfl)
  obtain ⟨q, hq⟩ : ∃ q, q = numB b := ⟨_, rfl⟩
  have HQ := Lib.hid hq
  rw [← hq] at HN
  clear hR hq
  obtain ⟨n, hn⟩ : ∃ n, n = b.len := ⟨_, rfl⟩
  rw [← hn] at HN x5 hl
  clear hn
  go_enter Try.func12, Try.ntmps12
  go_wp2_with (first
    | ((with_reducible refine wpList_isOp (.box 24 (.tmp 0)) rfl ?_); refine wpList_boxing _ w1 rfl 24 (.tmp 0) rfl (bkC b) H rfl (by exact HR.out.sz) (by exact HR.out.al) ?_)
    | ((with_reducible refine wpList_isOp (.load 24 (.tmp 1)) rfl ?_); refine wpList_loading _ rfl 24 (.tmp 1) rfl (.agg (bkC b)) ⟨H, 0, none⟩ rfl (by exact HL.out) ?_))
  refine (numbersMay_any b _).mono ?_
  rintro e w2 ⟨rfl, hc2⟩
  rw [← HQ.out]
  have y5 := hc2.cell x5 (fun f => f)
  have HC := Lib.hid (HR.out.ch.trans hc2)
  clear hc2 x5
  cases q
  · go_wp2
    go_ret
    exact ⟨ret_bool (by rw [HN.out, Bool.false_and]), HC.out⟩
  · by_cases h : n ≤ 228
    · have t1 : decide ((n : Int) ≤ 228) = true := by simp; omega
      have HM := Lib.hid (show decide (n ≤ 228) = true from decide_eq_true h)
      clear h
      go_wp2
      go_ret
      exact ⟨ret_bool (by rw [HN.out, HM.out]; rfl), HC.out⟩
    · have t1 : decide ((n : Int) ≤ 228) = false := by simp; omega
      have HM := Lib.hid (show decide (n ≤ 228) = false from decide_eq_false h)
      clear h
      go_wp2
      go_ret
      exact ⟨ret_bool (by rw [HN.out, HM.out]; rfl), HC.out⟩
#print axioms may_any
end Go.Proofs.Ytennkpjmdhidaaa
