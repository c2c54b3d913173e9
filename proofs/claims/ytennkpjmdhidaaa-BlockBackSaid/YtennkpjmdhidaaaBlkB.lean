/-
  The document's numbers and May (quartermasterref07), walked.
-/
import Derived.Test.YtennkpjmdhidaaaBlkA
namespace Go.Proofs.Ytennkpjmdhidaaa
open Go.RowKit
set_option linter.unusedVariables false

theorem numB_words {b : Bk} (h : wordsTo (fourI b.vol b.addr b.epoch b.seq) 4 = false) : numB b = false := by
  unfold numB
  rw [← words_four, h, Bool.and_false]
theorem numB_kind {b : Bk} (h : wordsTo (fourI b.vol b.addr b.epoch b.seq) 4 = true) : numB b = decide (1 ≤ b.kind ∧ b.kind ≤ 4) := by
  unfold numB
  rw [← words_four, h, Bool.and_true]
  rfl
set_option maxHeartbeats 1600000 in
set_option maxRecDepth 100000 in
theorem rnumbers_any (b : Bk) (w : World) : Calls Try.prog 22 #[.agg (bkC b)] w (Ans (.bool (numB b)) w) := by
  obtain ⟨w1, H, hR⟩ := bkR w b
  have x1 : w1.cell? ⟨H, 1, none⟩ = some (.int .i64 b.vol) := hR.at 1
  have x2 : w1.cell? ⟨H, 2, none⟩ = some (.int .i64 b.addr) := hR.at 2
  have x3 : w1.cell? ⟨H, 3, none⟩ = some (.int .i64 b.epoch) := hR.at 3
  have x4 : w1.cell? ⟨H, 4, none⟩ = some (.int .i64 b.seq) := hR.at 4
  have HR := Lib.hid hR
  have HA := Lib.hid (heap_alloc_new w1 (.cells (fourV b.vol b.addr b.epoch b.seq) 3))
  have HF := Lib.hid (fun i (hi : i < 4) => four_cell HA.out hi)
  have HX0 := Lib.hid (show (w1.alloc (.cells (fourV b.vol b.addr b.epoch b.seq) 3)).cell? ⟨H, 0, none⟩ = some (.int .i64 b.kind) from ((Ch.refl (fun _ => False) w1).alloc (fourV b.vol b.addr b.epoch b.seq) 3).cell (hR.at 0) (fun f => f))
  have HC := Lib.hid (hR.ch.alloc (fourV b.vol b.addr b.epoch b.seq) 3)
  have HNF := Lib.hid (numB_words (b := b))
  have HNT := Lib.hid (numB_kind (b := b))
  clear hR
  go_enter Try.func22, Try.ntmps22
  go_wp2_with ((with_reducible refine wpList_isOp (.box 24 (.tmp 0)) rfl ?_); refine wpList_boxing _ w1 rfl 24 (.tmp 0) rfl (bkC b) H rfl (by exact HR.out.sz) (by exact HR.out.al) ?_)
  change Code.wp _ _ _ _ (w1.alloc (.cells (fourV b.vol b.addr b.epoch b.seq) 3))
  obtain ⟨g, hg⟩ : ∃ g, g = w1.heap.size := ⟨_, rfl⟩
  obtain ⟨w2, hw2⟩ : ∃ w2, w2 = w1.alloc (.cells (fourV b.vol b.addr b.epoch b.seq) 3) := ⟨_, rfl⟩
  rw [← hw2] at HF HX0 HC ⊢
  rw [← hg] at HF ⊢
  clear HA hw2 hg x1 x2 x3 x4
  obtain ⟨f, hf⟩ : ∃ f, f = fourI b.vol b.addr b.epoch b.seq := ⟨_, rfl⟩
  rw [← hf] at HF HNF HNT
  clear hf
  have x0 := HX0.out
  go_loopw [4] (fun i wr => ∃ k : Nat, k ≤ 4 ∧ i = .int .i64 k ∧ (∃ d, wr = w2.drewN d) ∧ Hid (wordsTo f k = true)) (fun i _ => 4 - (intOf i).toNat)
  case atStart => exact ⟨0, Nat.zero_le _, rfl, ⟨0, rfl⟩, Lib.hid rfl⟩
  case round =>
    obtain ⟨k, hk, rfl, ⟨d, rfl⟩, HK⟩ := hrel
    by_cases hlt : k < 4
    · have c1 := HF.out k hlt
      obtain ⟨x, hx⟩ : ∃ x, x = f k := ⟨_, rfl⟩
      rw [← hx] at c1
      have tk : decide ((k : Int) < 4) = true := by simp; omega
      have i1 : (0 : Int) ≤ (k : Int) := Int.natCast_nonneg _
      have i2 : (k : Int) < 4 := by omega
      by_cases q1 : x < 0
      · have HN := Lib.hid (wordsTo_false (f := f) hlt (by rw [← hx]; exact decide_eq_false (by omega)))
        have t1 : decide (x < 0) = true := by simp; omega
        clear hx
        go_wp2
        go_ret
        exact ⟨ret_bool (HNF.out HN.out).symm, HC.out.drewN _⟩
      · have t1 : decide (x < 0) = false := by simp; omega
        by_cases q2 : 4294967295 < x
        · have HN := Lib.hid (wordsTo_false (f := f) hlt (by rw [← hx]; exact decide_eq_false (by omega)))
          clear hx
          go_wp2
          go_ret
          exact ⟨ret_bool (HNF.out HN.out).symm, HC.out.drewN _⟩
        · have HN := Lib.hid (show wordsTo f (k + 1) = true by
            show (wordsTo f k && wordB (f k)) = true
            rw [HK.out, Bool.true_and, ← hx]
            exact decide_eq_true (by omega))
          clear hx
          go_wp2
          go_roundw
          case rel => exact ⟨k + 1, by omega, by go_num, ⟨_, rfl⟩, HN⟩
          case measure => simp [intOf]; omega
    · obtain rfl : k = 4 := by omega
      have HE := Lib.hid (HNT.out HK.out)
      by_cases q1 : b.kind < 1
      · have HN := Lib.hid (show decide (1 ≤ b.kind ∧ b.kind ≤ 4) = false from decide_eq_false (by omega))
        have t1 : decide (1 ≤ b.kind) = false := by simp; omega
        clear q1
        go_wp2
        go_ret
        exact ⟨ret_bool (by rw [HE.out, HN.out]), HC.out.drewN _⟩
      · have t1 : decide (1 ≤ b.kind) = true := by simp; omega
        by_cases q2 : 4 < b.kind
        · have HN := Lib.hid (show decide (1 ≤ b.kind ∧ b.kind ≤ 4) = false from decide_eq_false (by omega))
          have t2 : decide (b.kind ≤ 4) = false := by simp; omega
          clear q1 q2
          go_wp2
          go_ret
          exact ⟨ret_bool (by rw [HE.out, HN.out]), HC.out.drewN _⟩
        · have HN := Lib.hid (show decide (1 ≤ b.kind ∧ b.kind ≤ 4) = true from decide_eq_true (by omega))
          have t2 : decide (b.kind ≤ 4) = true := by simp; omega
          clear q1 q2
          go_wp2
          go_ret
          exact ⟨ret_bool (by rw [HE.out, HN.out]), HC.out.drewN _⟩
#print axioms rnumbers_any
set_option maxHeartbeats 800000 in
theorem rmay_any (b : Bk) (A : Option Addr) (C : Nat) (w : World) (hV : b.V = .slice A b.len C) (hl : b.len ≤ 140737488351232) : Calls Try.prog 13 #[.agg (bkC b)] w (Ans (.bool (mayB b)) w) := by
  obtain ⟨w1, H, hR⟩ := bkR w b
  have x5 : w1.cell? ⟨H, 5, none⟩ = some (.slice A b.len C) := by rw [← hV]; exact hR.at 5
  have HL := Lib.hid (load_bk hR.cx)
  have HR := Lib.hid hR
  have HN := Lib.hid (show mayB b = (numB b && decide (b.len ≤ 228)) from rfl)
  obtain ⟨q, hq⟩ : ∃ q, q = numB b := ⟨_, rfl⟩
  have HQ := Lib.hid hq
  rw [← hq] at HN
  clear hR hq
  obtain ⟨n, hn⟩ : ∃ n, n = b.len := ⟨_, rfl⟩
  rw [← hn] at HN x5 hl
  clear hn
  go_enter Try.func13, Try.ntmps13
  go_wp2_with (first
    | ((with_reducible refine wpList_isOp (.box 24 (.tmp 0)) rfl ?_); refine wpList_boxing _ w1 rfl 24 (.tmp 0) rfl (bkC b) H rfl (by exact HR.out.sz) (by exact HR.out.al) ?_)
    | ((with_reducible refine wpList_isOp (.load 24 (.tmp 1)) rfl ?_); refine wpList_loading _ rfl 24 (.tmp 1) rfl (.agg (bkC b)) ⟨H, 0, none⟩ rfl (by exact HL.out) ?_))
  refine (rnumbers_any b _).mono ?_
  rintro e w2 ⟨rfl, hc2⟩
  rw [← HQ.out]
  have y5 := hc2.cell x5 (fun f => f)
  have HC := Lib.hid (HR.out.ch.trans hc2)
  clear hc2 x5
  cases q
  · go_wp2
    go_ret
    exact ⟨ret_bool (by rw [HN.out, Bool.false_and]), HC.out⟩
  · by_cases h : n ≤ 228
    · have t1 : decide ((n : Int) ≤ 228) = true := by simp; omega
      have HM := Lib.hid (show decide (n ≤ 228) = true from decide_eq_true h)
      clear h
      go_wp2
      go_ret
      exact ⟨ret_bool (by rw [HN.out, HM.out]; rfl), HC.out⟩
    · have t1 : decide ((n : Int) ≤ 228) = false := by simp; omega
      have HM := Lib.hid (show decide (n ≤ 228) = false from decide_eq_false h)
      clear h
      go_wp2
      go_ret
      exact ⟨ret_bool (by rw [HN.out, HM.out]; rfl), HC.out⟩
#print axioms rmay_any
end Go.Proofs.Ytennkpjmdhidaaa
