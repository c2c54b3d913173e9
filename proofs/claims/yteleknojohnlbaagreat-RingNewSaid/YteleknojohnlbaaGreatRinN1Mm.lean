/-
  A log is made, or not, as the document says; a nil one has nothing (RingNew, P11.3).
-/
import Derived.Test.YteleknojohnlbaaGreatMg51
namespace Go.Proofs.YteleknojohnlbaaGreat
open Go.RowKit
set_option linter.unusedVariables false
set_option maxRecDepth 100000
set_option linter.unusedSimpArgs false

theorem rcut_nil (w : World) : Calls Tryz.prog 36 #[.pointer none] w fun e w' => (∃ v, e = .returned v) ∧ Ch (fun _ => False) w w' := by
  go_enter Tryz.func36, Tryz.ntmps36
  go_wp2
  go_end0
  exact ⟨⟨_, rfl⟩, Ch.refl _ _⟩
attribute [local go_sem] Oper.semAt_some wide_fn wide_depth in
theorem rappend_nil (w : World) (A : Option Addr) (n C : Nat) : Calls Tryz.prog 35 #[.pointer none, .slice A n C] w (Ans (.int .i64 1) w) := by
  refine (callsIn_wide (n := 9)).1 ?_
  refine callsIn_of_wp_marks Tryz.func35 rfl trivial ?_ rfl
  simp only [Tryz.ntmps35, List.size_toArray, List.length_cons, List.length_nil, Nat.reduceAdd, Nat.reduceSub, Array.replicate_succ, Array.replicate_zero, List.push_toArray, List.append_toArray, List.nil_append, List.cons_append]
  gi_upto_region 0 with fail
  refine wpIn_wide.2 ?_
  go_wp2_with fail
  obtain ⟨w1, hw1⟩ : ∃ w1, w1 = w.alloc (.cells #[.pointer none] 51) := ⟨_, rfl⟩
  obtain ⟨w2, hw2⟩ : ∃ w2, w2 = w1.alloc (.cells #[.int .i64 0] 28) := ⟨_, rfl⟩
  obtain ⟨B2, hB2⟩ : ∃ b, b = w.heap.size := ⟨_, rfl⟩
  obtain ⟨E, hE⟩ : ∃ b, b = w.heap.size + 1 := ⟨_, rfl⟩
  rw [← hw1, ← hw2, ← hE, ← hB2]
  have hc1 : Ch (fun _ => False) w w1 := by rw [hw1]; exact (Ch.refl _ w).alloc _ _
  have hc12 : Ch (fun _ => False) w1 w2 := by rw [hw2]; exact (Ch.refl _ w1).alloc _ _
  have e1 : w1.heap.size = w.heap.size + 1 := by rw [hw1]; exact Array.size_push _
  have x1 : w1.heap[B2]? = some (.cells #[.pointer none] 51 (0, 0)) := by rw [hw1, hB2]; exact heap_alloc_new _ _
  have x2 : w2.cell? ⟨B2, 0, none⟩ = some (.pointer none) := blk_cell ((hc12.block B2 (blk_lt x1) (fun f => f)).trans x1)
  have he2 : w2.heap[E]? = some (.cells #[.int .i64 0] 28 (0, 0)) := by rw [hw2, hE, ← e1]; exact heap_alloc_new _ _
  have c4 : w2.cell? ⟨E, 0, none⟩ = some (.int .i64 0) := blk_cell he2
  have f4 : w2.frozen? ⟨E, 0, none⟩ = false := blk_frozen he2
  have HR5 : Hid ((w2.setCell ⟨E, 0, none⟩ (.int .i64 1)).cell? ⟨E, 0, none⟩ = some (.int .i64 1)) := Lib.hid (blk_cell (blk_set (i := 0) he2 _))
  have HCF : Hid (Ch (fun _ => False) w (w2.setCell ⟨E, 0, none⟩ (.int .i64 1))) := Lib.hid ((hc1.trans hc12).setCell (p := ⟨E, 0, none⟩) (Or.inr (by show w.heap.size ≤ E; omega)) _)
  clear hw1 hw2 hB2 hE hc1 hc12 x1 he2 e1
  go_wp2
  gi_wp2
  exact ⟨_, results_err Tryz.results35 _ _ E 1 rfl HR5.out, rfl, HCF.out⟩
def mayN (M : Bool) (f : Nat → Int) (k : Nat) : Bool := M && wordsTo f k
theorem mayN_next (M : Bool) (f : Nat → Int) (k : Nat) : mayN M f (k + 1) = (mayN M f k && wordB (f k)) := by unfold mayN; rw [show wordsTo f (k + 1) = (wordsTo f k && wordB (f k)) from rfl, Bool.and_assoc]
set_option maxHeartbeats 6400000 in
theorem ringNew_none (vol : Int) (g : Ge) (ep start next chain : Int) (w : World) : Calls Tryz.prog 9 #[.bool true, .int .i64 vol, .agg (geC g), .int .i64 ep, .int .i64 start, .int .i64 next, .int .i64 chain] w (Ans (.bool true) w) := by
  obtain ⟨w1, H, hR⟩ := geR w g
  have HR := Lib.hid hR
  have HAW := Lib.hid (rawake_any w1)
  clear hR
  go_enter Tryz.func9, Tryz.ntmps9
  go_wp2_with (first | ((with_reducible refine wpList_isOp (.box 23 (.tmp 2)) rfl ?_); refine wpList_boxing _ w1 rfl 23 (.tmp 2) rfl (geC g) H rfl (by exact HR.out.sz) (by exact HR.out.al) ?_) | fail)
  refine HAW.out.mono ?_
  rintro e w2 ⟨rfl, hc2⟩
  have HC2 := Lib.hid hc2
  have HN60 := Lib.hid (One.new 60 w2 (by omega) (by omega) w1 hc2)
  clear hc2 HAW
  go_wp2_with fail
  refine HN60.out.mono ?_
  rintro e w3 ⟨B, rfl, hO⟩
  have HO := Lib.hid hO
  obtain ⟨x0, x1, x2, x3⟩ := HR.out.x.gr hO.ch
  clear hO HN60
  go_wp2_with fail
  refine (rgNew_nil vol g ep start next chain w3).mono ?_
  rintro e w4 ⟨rfl, hc4⟩
  cases hM : mayG g
  · have HC4 := Lib.hid (HO.out.ch.trans hc4)
    obtain ⟨y0, y1, y2, y3⟩ := HR.out.x.gr HC4.out
    have HM := Lib.hid (rgmay_any g w4)
    clear hc4 x0 x1 x2 x3
    go_wp2_with fail
    refine HM.out.mono ?_
    rintro e w5 ⟨rfl, hc5⟩
    rw [hM]
    have HC5 := Lib.hid (HC4.out.trans hc5)
    clear hc5 HM y0 y1 y2 y3
    obtain ⟨w8, hw8⟩ : ∃ w8, w8 = w5.alloc (.cells #[.int .i64 vol, .int .i64 ep, .int .i64 start, .int .i64 next, .int .i64 chain] /-t-/3) := ⟨_, rfl⟩
    obtain ⟨L, hL⟩ : ∃ L, L = w5.heap.size := ⟨_, rfl⟩
    have HCL : Hid (∀ i, i < 5 → w8.cell? ⟨L, i, none⟩ = some (.int .i64 (wordsN vol ep start next chain i))) := Lib.hid fun i hi => by
      rw [hw8, hL]
      match i, hi with
      | 0, _ => exact blk_cell (heap_alloc_new _ _)
      | 1, _ => exact blk_cell (heap_alloc_new _ _)
      | 2, _ => exact blk_cell (heap_alloc_new _ _)
      | 3, _ => exact blk_cell (heap_alloc_new _ _)
      | 4, _ => exact blk_cell (heap_alloc_new _ _)
    have HC8 : Hid (Ch (fun _ => False) w w8) := Lib.hid (HR.out.ch.trans (by rw [hw8]; exact HC5.out.alloc _ _))
    have HGX : Hid (GeX w8 H g) := Lib.hid (HR.out.x.gr (by rw [hw8]; exact HC5.out.alloc _ _))
    have HW8 := Lib.hid hw8
    have HLB := Lib.hid hL
    clear hw8 hL
    go_wp2
    rw [← HW8.out, ← HLB.out]
    go_loopw [21, 23, 55, 56, 57, 58, 59, 60, 61, 62, 63, 64, 65, 66, 67, 68, 69, 70, 71, 72, 73] (fun b i _ _ _ _ _ _ _ _ _ _ _ _ _ _ _ _ _ _ _ wr => ∃ k : Nat, k ≤ 5 ∧ i = .int .i64 k ∧ b = .bool false ∧ wr = w8) (fun _ i _ _ _ _ _ _ _ _ _ _ _ _ _ _ _ _ _ _ _ _ => 5 - (intOf i).toNat)
    case atStart => exact ⟨0, Nat.zero_le _, rfl, rfl, rfl⟩
    case round =>
      obtain ⟨k, hk, rfl, rfl, rfl⟩ := hrel
      by_cases hlt : k < 5
      · have i1 : (0 : Int) ≤ (k : Int) := Int.natCast_nonneg _
        have i2 : (k : Int) < 5 := by omega
        go_wp2
        go_roundw
        case rel => exact ⟨k + 1, hlt, by go_num, by trivial, by trivial⟩
        case measure => simp [intOf]; omega
      · obtain rfl : k = 5 := by omega
        clear hlt hk
        go_wp2_with fail
        refine (rcut_nil _).mono ?_
        rintro e w9 ⟨⟨vc, rfl⟩, hc9⟩
        have HC9 := Lib.hid (HC8.out.trans hc9)
        clear hc9
        go_wp2_with fail
        refine (rappend_nil _ none 0 0).mono ?_
        rintro e w10 ⟨rfl, hc10⟩
        have HC10 := Lib.hid (HC9.out.trans hc10)
        clear hc10
        go_wp2_with fail
        refine (rnext_nil _).mono ?_
        rintro e w11 ⟨rfl, hc11⟩
        have HC11 := Lib.hid (HC10.out.trans hc11)
        clear hc11
        go_wp2_with fail
        refine (rchain_nil _).mono ?_
        rintro e w12 ⟨rfl, hc12⟩
        have HC12 := Lib.hid (HC11.out.trans hc12)
        clear hc12
        go_wp2
        go_ret
        exact ⟨rfl, HC12.out⟩
  · have HC4 := Lib.hid (HO.out.ch.trans hc4)
    obtain ⟨y0, y1, y2, y3⟩ := HR.out.x.gr HC4.out
    have HM := Lib.hid (rgmay_any g w4)
    clear hc4 x0 x1 x2 x3
    go_wp2_with fail
    refine HM.out.mono ?_
    rintro e w5 ⟨rfl, hc5⟩
    rw [hM]
    have HC5 := Lib.hid (HC4.out.trans hc5)
    clear hc5 HM y0 y1 y2 y3
    obtain ⟨w8, hw8⟩ : ∃ w8, w8 = w5.alloc (.cells #[.int .i64 vol, .int .i64 ep, .int .i64 start, .int .i64 next, .int .i64 chain] /-t-/3) := ⟨_, rfl⟩
    obtain ⟨L, hL⟩ : ∃ L, L = w5.heap.size := ⟨_, rfl⟩
    have HCL : Hid (∀ i, i < 5 → w8.cell? ⟨L, i, none⟩ = some (.int .i64 (wordsN vol ep start next chain i))) := Lib.hid fun i hi => by
      rw [hw8, hL]
      match i, hi with
      | 0, _ => exact blk_cell (heap_alloc_new _ _)
      | 1, _ => exact blk_cell (heap_alloc_new _ _)
      | 2, _ => exact blk_cell (heap_alloc_new _ _)
      | 3, _ => exact blk_cell (heap_alloc_new _ _)
      | 4, _ => exact blk_cell (heap_alloc_new _ _)
    have HC8 : Hid (Ch (fun _ => False) w w8) := Lib.hid (HR.out.ch.trans (by rw [hw8]; exact HC5.out.alloc _ _))
    have HGX : Hid (GeX w8 H g) := Lib.hid (HR.out.x.gr (by rw [hw8]; exact HC5.out.alloc _ _))
    have HW8 := Lib.hid hw8
    have HLB := Lib.hid hL
    clear hw8 hL
    go_wp2
    rw [← HW8.out, ← HLB.out]
    go_loopw [21, 23, 55, 56, 57, 58, 59, 60, 61, 62, 63, 64, 65, 66, 67, 68, 69, 70, 71, 72, 73] (fun b i _ _ _ _ _ _ _ _ _ _ _ _ _ _ _ _ _ _ _ wr => ∃ k : Nat, k ≤ 5 ∧ i = .int .i64 k ∧ b = .bool false ∧ wr = w8) (fun _ i _ _ _ _ _ _ _ _ _ _ _ _ _ _ _ _ _ _ _ _ => 5 - (intOf i).toNat)
    case atStart => exact ⟨0, Nat.zero_le _, rfl, rfl, rfl⟩
    case round =>
      obtain ⟨k, hk, rfl, rfl, rfl⟩ := hrel
      by_cases hlt : k < 5
      · have i1 : (0 : Int) ≤ (k : Int) := Int.natCast_nonneg _
        have i2 : (k : Int) < 5 := by omega
        go_wp2
        go_roundw
        case rel => exact ⟨k + 1, hlt, by go_num, by trivial, by trivial⟩
        case measure => simp [intOf]; omega
      · obtain rfl : k = 5 := by omega
        clear hlt hk
        go_wp2_with fail
        refine (rcut_nil _).mono ?_
        rintro e w9 ⟨⟨vc, rfl⟩, hc9⟩
        have HC9 := Lib.hid (HC8.out.trans hc9)
        clear hc9
        go_wp2_with fail
        refine (rappend_nil _ none 0 0).mono ?_
        rintro e w10 ⟨rfl, hc10⟩
        have HC10 := Lib.hid (HC9.out.trans hc10)
        clear hc10
        go_wp2_with fail
        refine (rnext_nil _).mono ?_
        rintro e w11 ⟨rfl, hc11⟩
        have HC11 := Lib.hid (HC10.out.trans hc11)
        clear hc11
        go_wp2_with fail
        refine (rchain_nil _).mono ?_
        rintro e w12 ⟨rfl, hc12⟩
        have HC12 := Lib.hid (HC11.out.trans hc12)
        clear hc12
        go_wp2
        go_ret
        exact ⟨rfl, HC12.out⟩
set_option maxHeartbeats 6400000 in
theorem ringNew_bad (vol : Int) (g : Ge) (ep start next chain : Int) (w : World) (hok : okN vol g ep start next chain = false) : Calls Tryz.prog 9 #[.bool false, .int .i64 vol, .agg (geC g), .int .i64 ep, .int .i64 start, .int .i64 next, .int .i64 chain] w (Ans (.bool true) w) := by
  obtain ⟨w1, H, hR⟩ := geR w g
  have HR := Lib.hid hR
  have HAW := Lib.hid (rawake_any w1)
  clear hR
  go_enter Tryz.func9, Tryz.ntmps9
  go_wp2_with (first | ((with_reducible refine wpList_isOp (.box 23 (.tmp 2)) rfl ?_); refine wpList_boxing _ w1 rfl 23 (.tmp 2) rfl (geC g) H rfl (by exact HR.out.sz) (by exact HR.out.al) ?_) | fail)
  refine HAW.out.mono ?_
  rintro e w2 ⟨rfl, hc2⟩
  have HC2 := Lib.hid hc2
  have HN60 := Lib.hid (One.new 60 w2 (by omega) (by omega) w1 hc2)
  clear hc2 HAW
  go_wp2_with fail
  refine HN60.out.mono ?_
  rintro e w3 ⟨B, rfl, hO⟩
  have HO := Lib.hid hO
  obtain ⟨x0, x1, x2, x3⟩ := HR.out.x.gr hO.ch
  clear hO HN60
  go_wp2_with fail
  refine (rgNew_any B vol g ep start next chain w3).mono ?_
  rintro e w4 hn
  obtain ⟨rfl, hc4⟩ : e = .returned (.tuple #[.pointer none, .int .i64 1]) ∧ Ch (fun _ => False) w3 w4 := by unfold NewPost at hn; rw [hok] at hn; exact hn
  clear hn
  cases hM : mayG g
  · have HC4 := Lib.hid (HO.out.ch.trans hc4)
    obtain ⟨y0, y1, y2, y3⟩ := HR.out.x.gr HC4.out
    have HM := Lib.hid (rgmay_any g w4)
    clear hc4 x0 x1 x2 x3
    go_wp2_with fail
    refine HM.out.mono ?_
    rintro e w5 ⟨rfl, hc5⟩
    rw [hM]
    have HC5 := Lib.hid (HC4.out.trans hc5)
    clear hc5 HM y0 y1 y2 y3
    obtain ⟨w8, hw8⟩ : ∃ w8, w8 = w5.alloc (.cells #[.int .i64 vol, .int .i64 ep, .int .i64 start, .int .i64 next, .int .i64 chain] /-t-/3) := ⟨_, rfl⟩
    obtain ⟨L, hL⟩ : ∃ L, L = w5.heap.size := ⟨_, rfl⟩
    have HCL : Hid (∀ i, i < 5 → w8.cell? ⟨L, i, none⟩ = some (.int .i64 (wordsN vol ep start next chain i))) := Lib.hid fun i hi => by
      rw [hw8, hL]
      match i, hi with
      | 0, _ => exact blk_cell (heap_alloc_new _ _)
      | 1, _ => exact blk_cell (heap_alloc_new _ _)
      | 2, _ => exact blk_cell (heap_alloc_new _ _)
      | 3, _ => exact blk_cell (heap_alloc_new _ _)
      | 4, _ => exact blk_cell (heap_alloc_new _ _)
    have HC8 : Hid (Ch (fun _ => False) w w8) := Lib.hid (HR.out.ch.trans (by rw [hw8]; exact HC5.out.alloc _ _))
    have HGX : Hid (GeX w8 H g) := Lib.hid (HR.out.x.gr (by rw [hw8]; exact HC5.out.alloc _ _))
    have HW8 := Lib.hid hw8
    have HLB := Lib.hid hL
    clear hw8 hL
    go_wp2
    rw [← HW8.out, ← HLB.out]
    go_loopw [21, 23, 55, 56, 57, 58, 59, 60, 61, 62, 63, 64, 65, 66, 67, 68, 69, 70, 71, 72, 73] (fun b i _ _ _ _ _ _ _ _ _ _ _ _ _ _ _ _ _ _ _ wr => ∃ k : Nat, k ≤ 5 ∧ i = .int .i64 k ∧ b = .bool false ∧ wr = w8) (fun _ i _ _ _ _ _ _ _ _ _ _ _ _ _ _ _ _ _ _ _ _ => 5 - (intOf i).toNat)
    case atStart => exact ⟨0, Nat.zero_le _, rfl, rfl, rfl⟩
    case round =>
      obtain ⟨k, hk, rfl, rfl, rfl⟩ := hrel
      by_cases hlt : k < 5
      · have i1 : (0 : Int) ≤ (k : Int) := Int.natCast_nonneg _
        have i2 : (k : Int) < 5 := by omega
        go_wp2
        go_roundw
        case rel => exact ⟨k + 1, hlt, by go_num, by trivial, by trivial⟩
        case measure => simp [intOf]; omega
      · obtain rfl : k = 5 := by omega
        clear hlt hk
        go_wp2_with fail
        refine (rcut_nil _).mono ?_
        rintro e w9 ⟨⟨vc, rfl⟩, hc9⟩
        have HC9 := Lib.hid (HC8.out.trans hc9)
        clear hc9
        go_wp2_with fail
        refine (rappend_nil _ none 0 0).mono ?_
        rintro e w10 ⟨rfl, hc10⟩
        have HC10 := Lib.hid (HC9.out.trans hc10)
        clear hc10
        go_wp2_with fail
        refine (rnext_nil _).mono ?_
        rintro e w11 ⟨rfl, hc11⟩
        have HC11 := Lib.hid (HC10.out.trans hc11)
        clear hc11
        go_wp2_with fail
        refine (rchain_nil _).mono ?_
        rintro e w12 ⟨rfl, hc12⟩
        have HC12 := Lib.hid (HC11.out.trans hc12)
        clear hc12
        go_wp2
        go_ret
        exact ⟨rfl, HC12.out⟩
  · have HC4 := Lib.hid (HO.out.ch.trans hc4)
    obtain ⟨y0, y1, y2, y3⟩ := HR.out.x.gr HC4.out
    have HM := Lib.hid (rgmay_any g w4)
    clear hc4 x0 x1 x2 x3
    go_wp2_with fail
    refine HM.out.mono ?_
    rintro e w5 ⟨rfl, hc5⟩
    rw [hM]
    have HC5 := Lib.hid (HC4.out.trans hc5)
    clear hc5 HM y0 y1 y2 y3
    obtain ⟨w8, hw8⟩ : ∃ w8, w8 = w5.alloc (.cells #[.int .i64 vol, .int .i64 ep, .int .i64 start, .int .i64 next, .int .i64 chain] /-t-/3) := ⟨_, rfl⟩
    obtain ⟨L, hL⟩ : ∃ L, L = w5.heap.size := ⟨_, rfl⟩
    have HCL : Hid (∀ i, i < 5 → w8.cell? ⟨L, i, none⟩ = some (.int .i64 (wordsN vol ep start next chain i))) := Lib.hid fun i hi => by
      rw [hw8, hL]
      match i, hi with
      | 0, _ => exact blk_cell (heap_alloc_new _ _)
      | 1, _ => exact blk_cell (heap_alloc_new _ _)
      | 2, _ => exact blk_cell (heap_alloc_new _ _)
      | 3, _ => exact blk_cell (heap_alloc_new _ _)
      | 4, _ => exact blk_cell (heap_alloc_new _ _)
    have HC8 : Hid (Ch (fun _ => False) w w8) := Lib.hid (HR.out.ch.trans (by rw [hw8]; exact HC5.out.alloc _ _))
    have HGX : Hid (GeX w8 H g) := Lib.hid (HR.out.x.gr (by rw [hw8]; exact HC5.out.alloc _ _))
    have HW8 := Lib.hid hw8
    have HLB := Lib.hid hL
    clear hw8 hL
    go_wp2
    rw [← HW8.out, ← HLB.out]
    have HM0 : Hid (mayN true (wordsN vol ep start next chain) 0 = true) := Lib.hid rfl
    go_loopw [21, 23, 55, 56, 57, 58, 59, 60, 61, 62, 63, 64, 65, 66, 67, 68, 69, 70, 71, 72, 73] (fun b i _ _ _ _ _ _ _ _ _ _ _ _ _ _ _ _ _ _ _ wr => ∃ k : Nat, k ≤ 5 ∧ i = .int .i64 k ∧ b = .bool (mayN true (wordsN vol ep start next chain) k) ∧ wr = w8) (fun _ i _ _ _ _ _ _ _ _ _ _ _ _ _ _ _ _ _ _ _ _ => 5 - (intOf i).toNat)
    case atStart => exact ⟨0, Nat.zero_le _, rfl, by rw [HM0.out], rfl⟩
    case round =>
      obtain ⟨k, hk, rfl, rfl, rfl⟩ := hrel
      by_cases hlt : k < 5
      · have i1 : (0 : Int) ≤ (k : Int) := Int.natCast_nonneg _
        have i2 : (k : Int) < 5 := by omega
        have HNX := Lib.hid (mayN_next true (wordsN vol ep start next chain) k)
        have c1 := HCL.out k hlt
        obtain ⟨x, hx⟩ : ∃ x, x = wordsN vol ep start next chain k := ⟨_, rfl⟩
        rw [← hx] at c1 HNX
        clear hx
        cases hb : mayN true (wordsN vol ep start next chain) k
        · rw [hb] at HNX
          clear hb
          go_wp2
          go_roundw
          case rel => exact ⟨k + 1, hlt, by go_num, by rw [HNX.out]; rfl, by trivial⟩
          case measure => simp [intOf]; omega
        · rw [hb] at HNX
          clear hb
          by_cases h0 : 0 ≤ x
          · by_cases h1 : x ≤ 4294967295
            · have HB : Hid (wordB x = true) := Lib.hid (decide_eq_true ⟨h0, h1⟩)
              go_wp2
              go_roundw
              case rel => exact ⟨k + 1, hlt, by go_num, by rw [HNX.out, HB.out]; rfl, by trivial⟩
              case measure => simp [intOf]; omega
            · have HB : Hid (wordB x = false) := Lib.hid (decide_eq_false (fun q => h1 q.2))
              go_wp2
              go_roundw
              case rel => exact ⟨k + 1, hlt, by go_num, by rw [HNX.out, HB.out]; rfl, by trivial⟩
              case measure => simp [intOf]; omega
          · have HB : Hid (wordB x = false) := Lib.hid (decide_eq_false (fun q => h0 q.1))
            go_wp2
            go_roundw
            case rel => exact ⟨k + 1, hlt, by go_num, by rw [HNX.out, HB.out]; rfl, by trivial⟩
            case measure => simp [intOf]; omega
      · obtain rfl : k = 5 := by omega
        clear hlt hk
        cases hW : mayN true (wordsN vol ep start next chain) 5
        · clear HCL HM0
          go_wp2_with fail
          refine (rcut_nil _).mono ?_
          rintro e w9 ⟨⟨vc, rfl⟩, hc9⟩
          have HC9 := Lib.hid (HC8.out.trans hc9)
          clear hc9
          go_wp2_with fail
          refine (rappend_nil _ none 0 0).mono ?_
          rintro e w10 ⟨rfl, hc10⟩
          have HC10 := Lib.hid (HC9.out.trans hc10)
          clear hc10
          go_wp2_with fail
          refine (rnext_nil _).mono ?_
          rintro e w11 ⟨rfl, hc11⟩
          have HC11 := Lib.hid (HC10.out.trans hc11)
          clear hc11
          go_wp2_with fail
          refine (rchain_nil _).mono ?_
          rintro e w12 ⟨rfl, hc12⟩
          have HC12 := Lib.hid (HC11.out.trans hc12)
          clear hc12
          go_wp2
          go_ret
          exact ⟨rfl, HC12.out⟩

        · have hww : wordsTo (wordsN vol ep start next chain) 5 = true := hW
          have e1 : wrap64 (next - start) = next - start := IntWalk.wrap64_in _ (by
            have k1 := wordB_iff.1 (wordsTo_at hww (k := 2) (by omega))
            have k2 := wordB_iff.1 (wordsTo_at hww (k := 3) (by omega))
            have k3 : 0 ≤ start ∧ start ≤ 4294967295 := k1
            have k4 : 0 ≤ next ∧ next ≤ 4294967295 := k2
            exact ⟨by omega, by omega⟩)
          have hin : inB (next - start) 0 g.wal = false := by
            unfold okN at hok
            rw [hM, hww] at hok
            exact hok
          obtain ⟨x0, x1, x2, x3⟩ := HGX.out
          clear HCL HM0 hW hww hok
          by_cases ha : start ≤ next
          · by_cases hb : next - start ≤ g.wal
            · rw [show inB (next - start) 0 g.wal = true from inB_true.2 ⟨by omega, hb⟩] at hin
              cases hin
            · clear hin
              go_wp2_with fail
              refine (rcut_nil _).mono ?_
              rintro e w9 ⟨⟨vc, rfl⟩, hc9⟩
              have HC9 := Lib.hid (HC8.out.trans hc9)
              clear hc9
              go_wp2_with fail
              refine (rappend_nil _ none 0 0).mono ?_
              rintro e w10 ⟨rfl, hc10⟩
              have HC10 := Lib.hid (HC9.out.trans hc10)
              clear hc10
              go_wp2_with fail
              refine (rnext_nil _).mono ?_
              rintro e w11 ⟨rfl, hc11⟩
              have HC11 := Lib.hid (HC10.out.trans hc11)
              clear hc11
              go_wp2_with fail
              refine (rchain_nil _).mono ?_
              rintro e w12 ⟨rfl, hc12⟩
              have HC12 := Lib.hid (HC11.out.trans hc12)
              clear hc12
              go_wp2
              go_ret
              exact ⟨rfl, HC12.out⟩
          · clear hin
            go_wp2_with fail
            refine (rcut_nil _).mono ?_
            rintro e w9 ⟨⟨vc, rfl⟩, hc9⟩
            have HC9 := Lib.hid (HC8.out.trans hc9)
            clear hc9
            go_wp2_with fail
            refine (rappend_nil _ none 0 0).mono ?_
            rintro e w10 ⟨rfl, hc10⟩
            have HC10 := Lib.hid (HC9.out.trans hc10)
            clear hc10
            go_wp2_with fail
            refine (rnext_nil _).mono ?_
            rintro e w11 ⟨rfl, hc11⟩
            have HC11 := Lib.hid (HC10.out.trans hc11)
            clear hc11
            go_wp2_with fail
            refine (rchain_nil _).mono ?_
            rintro e w12 ⟨rfl, hc12⟩
            have HC12 := Lib.hid (HC11.out.trans hc12)
            clear hc12
            go_wp2
            go_ret
            exact ⟨rfl, HC12.out⟩

set_option maxHeartbeats 6400000 in
theorem ringNew_yes (vol : Int) (g : Ge) (ep start next chain : Int) (w : World) (hok : okN vol g ep start next chain = true) : Calls Tryz.prog 9 #[.bool false, .int .i64 vol, .agg (geC g), .int .i64 ep, .int .i64 start, .int .i64 next, .int .i64 chain] w (Ans (.bool true) w) := by
  obtain ⟨w1, H, hR⟩ := geR w g
  have HR := Lib.hid hR
  have HAW := Lib.hid (rawake_any w1)
  clear hR
  go_enter Tryz.func9, Tryz.ntmps9
  go_wp2_with (first | ((with_reducible refine wpList_isOp (.box 23 (.tmp 2)) rfl ?_); refine wpList_boxing _ w1 rfl 23 (.tmp 2) rfl (geC g) H rfl (by exact HR.out.sz) (by exact HR.out.al) ?_) | fail)
  refine HAW.out.mono ?_
  rintro e w2 ⟨rfl, hc2⟩
  have HC2 := Lib.hid hc2
  have HN60 := Lib.hid (One.new 60 w2 (by omega) (by omega) w1 hc2)
  clear hc2 HAW
  go_wp2_with fail
  refine HN60.out.mono ?_
  rintro e w3 ⟨B, rfl, hO⟩
  have HO := Lib.hid hO
  obtain ⟨x0, x1, x2, x3⟩ := HR.out.x.gr hO.ch
  clear hO HN60
  go_wp2_with fail
  have hM : mayG g = true := by
    unfold okN at hok
    exact (Bool.and_eq_true_iff.1 hok).1
  refine (rgNew_any B vol g ep start next chain w3).mono ?_
  rintro e w4 hn
  obtain ⟨R, rfl, hR1, hR2, hc4⟩ : ∃ R, e = .returned (.tuple #[.pointer (some ⟨R, 0, none⟩), .int .i64 0]) ∧ w3.heap.size ≤ R ∧ RgIs w4 R (rgOf B vol g ep start next chain) ∧ Ch (fun _ => False) w3 w4 := by unfold NewPost at hn; rw [hok] at hn; exact hn
  have HRG := Lib.hid hR2
  clear hn hR1 hR2
  have HC48 : Hid (Ch (fun _ => False) w4 w4) := Lib.hid (Ch.refl _ _)
  have HC4 := Lib.hid (HO.out.ch.trans hc4)
  obtain ⟨y0, y1, y2, y3⟩ := HR.out.x.gr HC4.out
  have HM := Lib.hid (rgmay_any g w4)
  clear hc4 x0 x1 x2 x3
  go_wp2_with fail
  refine HM.out.mono ?_
  rintro e w5 ⟨rfl, hc5⟩
  have HC45 := Lib.hid hc5
  rw [hM]
  have HC5 := Lib.hid (HC4.out.trans hc5)
  clear hc5 HM y0 y1 y2 y3
  obtain ⟨w8, hw8⟩ : ∃ w8, w8 = w5.alloc (.cells #[.int .i64 vol, .int .i64 ep, .int .i64 start, .int .i64 next, .int .i64 chain] /-t-/3) := ⟨_, rfl⟩
  obtain ⟨L, hL⟩ : ∃ L, L = w5.heap.size := ⟨_, rfl⟩
  have HCL : Hid (∀ i, i < 5 → w8.cell? ⟨L, i, none⟩ = some (.int .i64 (wordsN vol ep start next chain i))) := Lib.hid fun i hi => by
    rw [hw8, hL]
    match i, hi with
    | 0, _ => exact blk_cell (heap_alloc_new _ _)
    | 1, _ => exact blk_cell (heap_alloc_new _ _)
    | 2, _ => exact blk_cell (heap_alloc_new _ _)
    | 3, _ => exact blk_cell (heap_alloc_new _ _)
    | 4, _ => exact blk_cell (heap_alloc_new _ _)
  have HC8 : Hid (Ch (fun _ => False) w w8) := Lib.hid (HR.out.ch.trans (by rw [hw8]; exact HC5.out.alloc _ _))
  have HGX : Hid (GeX w8 H g) := Lib.hid (HR.out.x.gr (by rw [hw8]; exact HC5.out.alloc _ _))
  have HC48 : Hid (Ch (fun _ => False) w4 w8) := Lib.hid (by rw [hw8]; exact HC45.out.alloc _ _)
  have HW8 := Lib.hid hw8
  have HLB := Lib.hid hL
  clear hw8 hL
  go_wp2
  rw [← HW8.out, ← HLB.out]
  have HM0 : Hid (mayN true (wordsN vol ep start next chain) 0 = true) := Lib.hid rfl
  go_loopw [21, 23, 55, 56, 57, 58, 59, 60, 61, 62, 63, 64, 65, 66, 67, 68, 69, 70, 71, 72, 73] (fun b i _ _ _ _ _ _ _ _ _ _ _ _ _ _ _ _ _ _ _ wr => ∃ k : Nat, k ≤ 5 ∧ i = .int .i64 k ∧ b = .bool (mayN true (wordsN vol ep start next chain) k) ∧ wr = w8) (fun _ i _ _ _ _ _ _ _ _ _ _ _ _ _ _ _ _ _ _ _ _ => 5 - (intOf i).toNat)
  case atStart => exact ⟨0, Nat.zero_le _, rfl, by rw [HM0.out], rfl⟩
  case round =>
    obtain ⟨k, hk, rfl, rfl, rfl⟩ := hrel
    by_cases hlt : k < 5
    · have i1 : (0 : Int) ≤ (k : Int) := Int.natCast_nonneg _
      have i2 : (k : Int) < 5 := by omega
      have HNX := Lib.hid (mayN_next true (wordsN vol ep start next chain) k)
      have c1 := HCL.out k hlt
      obtain ⟨x, hx⟩ : ∃ x, x = wordsN vol ep start next chain k := ⟨_, rfl⟩
      rw [← hx] at c1 HNX
      clear hx
      cases hb : mayN true (wordsN vol ep start next chain) k
      · rw [hb] at HNX
        clear hb
        go_wp2
        go_roundw
        case rel => exact ⟨k + 1, hlt, by go_num, by rw [HNX.out]; rfl, by trivial⟩
        case measure => simp [intOf]; omega
      · rw [hb] at HNX
        clear hb
        by_cases h0 : 0 ≤ x
        · by_cases h1 : x ≤ 4294967295
          · have HB : Hid (wordB x = true) := Lib.hid (decide_eq_true ⟨h0, h1⟩)
            go_wp2
            go_roundw
            case rel => exact ⟨k + 1, hlt, by go_num, by rw [HNX.out, HB.out]; rfl, by trivial⟩
            case measure => simp [intOf]; omega
          · have HB : Hid (wordB x = false) := Lib.hid (decide_eq_false (fun q => h1 q.2))
            go_wp2
            go_roundw
            case rel => exact ⟨k + 1, hlt, by go_num, by rw [HNX.out, HB.out]; rfl, by trivial⟩
            case measure => simp [intOf]; omega
        · have HB : Hid (wordB x = false) := Lib.hid (decide_eq_false (fun q => h0 q.1))
          go_wp2
          go_roundw
          case rel => exact ⟨k + 1, hlt, by go_num, by rw [HNX.out, HB.out]; rfl, by trivial⟩
          case measure => simp [intOf]; omega
    · obtain rfl : k = 5 := by omega
      clear hlt hk
      have hW : mayN true (wordsN vol ep start next chain) 5 = true := by
        unfold okN at hok
        rw [hM, Bool.true_and] at hok
        exact (Bool.and_eq_true_iff.1 hok).1
      rw [hW]
      have hww : wordsTo (wordsN vol ep start next chain) 5 = true := hW
      have e1 : wrap64 (next - start) = next - start := IntWalk.wrap64_in _ (by
        have k1 := wordB_iff.1 (wordsTo_at hww (k := 2) (by omega))
        have k2 := wordB_iff.1 (wordsTo_at hww (k := 3) (by omega))
        have k3 : 0 ≤ start ∧ start ≤ 4294967295 := k1
        have k4 : 0 ≤ next ∧ next ≤ 4294967295 := k2
        exact ⟨by omega, by omega⟩)
      have hin : inB (next - start) 0 g.wal = true := by
        unfold okN at hok
        rw [hM, hww] at hok
        exact hok
      obtain ⟨x0, x1, x2, x3⟩ := HGX.out
      clear HCL HM0 hW hww hok
      by_cases ha : start ≤ next
      · by_cases hb : next - start ≤ g.wal
        · clear hin
          have hr8 : RgIs wr R (rgOf B vol g ep start next chain) := HRG.out.gr HC48.out
          have HNX : Hid (Calls Tryz.prog 30 #[.pointer (some ⟨R, 0, none⟩)] wr (Ans (.int .i64 next) wr)) := Lib.hid (rnext_any R _ wr hr8)
          have HRC : Hid (∀ wx, Ch (fun _ => False) wr wx → Calls Tryz.prog 31 #[.pointer (some ⟨R, 0, none⟩)] wx (Ans (.int .i64 chain) wx)) := Lib.hid (fun wx k => rchain_any R _ wx (hr8.gr k))
          clear hr8
          go_wp2_with fail
          refine HNX.out.mono ?_
          rintro e w9 ⟨rfl, hc9⟩
          have HC9 := Lib.hid hc9
          clear hc9
          go_wp2_with fail
          refine (HRC.out w9 HC9.out).mono ?_
          rintro e w10 ⟨rfl, hc10⟩
          have HC10 := Lib.hid ((HC8.out.trans HC9.out).trans hc10)
          clear hc10
          go_wp2
          go_ret
          exact ⟨rfl, HC10.out⟩
        · unfold inB at hin
          have := of_decide_eq_true hin
          omega
      · unfold inB at hin
        have := of_decide_eq_true hin
        omega
theorem ringNew_of (no : Bool) (vol : Int) (g : Ge) (ep start next chain : Int) (w : World) : Calls Tryz.prog 9 #[.bool no, .int .i64 vol, .agg (geC g), .int .i64 ep, .int .i64 start, .int .i64 next, .int .i64 chain] w (Told w) := by
  cases no
  · cases hok : okN vol g ep start next chain
    · exact ringNew_bad vol g ep start next chain w hok
    · exact ringNew_yes vol g ep start next chain w hok
  · exact ringNew_none vol g ep start next chain w
#print axioms ringNew_of
end Go.Proofs.YteleknojohnlbaaGreat
