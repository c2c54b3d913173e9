/-
  ring.Follow, where something may not be: no tail, and ErrArg. ring's Ring: its cells (Rg, rgC), Next, Chain, Cut, count. ring.New.
-/
import Derived.Test.YteleknojohnlbaaGreatMk32
namespace Go.Proofs.YteleknojohnlbaaGreat
open Go.RowKit
set_option linter.unusedVariables false
set_option maxRecDepth 100000
set_option linter.unusedSimpArgs false
attribute [local go_sem] Oper.semAt_some wide_fn wide_depth
def okF (vol : Int) (g : Ge) (start chain : Int) (n0 n1 : Nat) : Bool := mayG g && (wordsTo (wordsF vol start chain) 3 && (decide ((n0 : Int) = g.wal) && decide ((n1 : Int) = g.wal)))
def FolNo (w : World) (e : Ending) (w' : World) : Prop := e = .returned (.tuple #[.agg (tlC tl0 0 (.slice none 0 0)), .int .i64 1]) ∧ Ch (fun _ => False) w w'
structure NoF (w wx W3 : World) (T E : Nat) : Prop where
  st : (storeVar 40 ⟨T, 0, none⟩ (.agg (tlC tl0 0 (.slice none 0 0)))).run Tryz.prog wx = .ok () W3
  c3 : W3.cell? ⟨E, 0, none⟩ = some (.int .i64 0)
  f3 : W3.frozen? ⟨E, 0, none⟩ = false
  t : (W3.setCell ⟨E, 0, none⟩ (.int .i64 1)).heap[T]? = some (.cells (tlC tl0 0 (.slice none 0 0)) 40 (0, 0))
  e : (W3.setCell ⟨E, 0, none⟩ (.int .i64 1)).cell? ⟨E, 0, none⟩ = some (.int .i64 1)
  ch : Ch (fun _ => False) w (W3.setCell ⟨E, 0, none⟩ (.int .i64 1))
theorem noF {w w0 wx : World} {T E : Nat} (h0 : Ch (fun _ => False) w w0) (hT : w0.heap[T]? = some (.cells (tlC tl0 0 (.slice none 0 0)) 40 (0, 0))) (hE : w0.heap[E]? = some (.cells #[.int .i64 0] 28 (0, 0))) (hTE : T ≠ E) (hlo : w.heap.size ≤ T ∧ w.heap.size ≤ E) (k : Ch (fun _ => False) w0 wx) : ∃ W3, NoF w wx W3 T E := by
  have t1 := (k.block T (blk_lt hT) (fun f => f)).trans hT
  have e1 := (k.block E (blk_lt hE) (fun f => f)).trans hE
  obtain ⟨W3, h3⟩ := stTl tl0 0 t1 slV_nil
  have e3 := (h3.ch.block E (blk_lt e1) (by omega)).trans e1
  have k4 : Ch (fun i => i = E) W3 (W3.setCell ⟨E, 0, none⟩ (.int .i64 1)) := (Ch.refl (fun i => i = E) W3).setCell (p := ⟨E, 0, none⟩) (Or.inl rfl) _
  have e4 : (W3.setCell ⟨E, 0, none⟩ (.int .i64 1)).heap[E]? = some (.cells #[.int .i64 1] 28 (0, 0)) := blk_set (i := 0) e3 _
  exact ⟨W3, h3.st, blk_cell e3, blk_frozen e3, (k4.block T (blk_lt h3.cx) hTE).trans h3.cx, blk_cell e4, ch_then (h0.trans k) (T := fun i => i = T ∨ i = E) ((h3.ch.mono fun i _ q => Or.inl q).trans (k4.mono fun i _ q => Or.inr q)) fun i q => Or.inr (by omega)⟩
set_option maxHeartbeats 25600000 in
theorem rfollow_no (A0 A1 : Option Addr) (n0 n1 C0 C1 : Nat) (vol start chain : Int) (g : Ge) (w : World) (h : okF vol g start chain n0 n1 = false) :
    Calls Tryz.prog 21 #[.slice A0 n0 C0, .slice A1 n1 C1, .int .i64 vol, .agg (geC g), .int .i64 start, .int .i64 chain] w (FolNo w) := by
  obtain ⟨w1, G, hG⟩ := geR w g
  obtain ⟨w2, T, hT⟩ := boxR w1 (tlC tl0 0 (.slice none 0 0)) 40
  have HG := Lib.hid hG
  have HT := Lib.hid hT
  have HNO := Lib.hid h
  clear hG hT h
  refine (callsIn_wide (n := 9)).1 ?_
  refine callsIn_of_wp_marks Tryz.func21 rfl trivial ?_ rfl
  simp only [Tryz.ntmps21, List.size_toArray, List.length_cons, List.length_nil, Nat.reduceAdd, Nat.reduceSub, Array.replicate_succ, Array.replicate_zero, List.push_toArray, List.append_toArray, List.nil_append, List.cons_append]
  gi_upto_region 0 with fail
  refine wpIn_wide.2 ?_
  go_wp2_with (first
    | ((with_reducible refine wpList_isOp (.box 23 (.tmp 3)) rfl ?_); refine wpList_boxing _ w1 rfl 23 (.tmp 3) rfl (geC g) G rfl (by exact HG.out.sz) (by exact HG.out.al) ?_)
    | ((with_reducible refine wpList_isOp (.alloc 40) rfl ?_); refine wpList_making _ w2 rfl 40 rfl (tlC tl0 0 (.slice none 0 0)) T (zero_tl _) (by exact HT.out.sz) (by exact HT.out.al) ?_)
    | fail)
  obtain ⟨w3, hw3⟩ : ∃ w3, w3 = w2.alloc (.cells #[.int .i64 0] 28) := ⟨_, rfl⟩
  rw [← hw3]
  obtain ⟨E, hE⟩ : ∃ E, E = w2.heap.size := ⟨_, rfl⟩
  rw [← hE]
  have HE3 : Hid (w3.heap[E]? = some (.cells #[.int .i64 0] 28 (0, 0)) ∧ w2.heap.size = E ∧ Ch (fun _ => False) w2 w3) := Lib.hid ⟨by rw [hw3, hE]; exact heap_alloc_new _ _, hE.symm, by rw [hw3]; exact (Ch.refl _ w2).alloc _ _⟩
  clear hw3 hE
  have HNF : Hid (∀ wx, Ch (fun _ => False) w3 wx → ∃ W3, NoF w wx W3 T E) := Lib.hid fun wx k => noF ((HG.out.ch.trans HT.out.ch).trans HE3.out.2.2) ((HE3.out.2.2.block T (blk_lt HT.out.cx) (fun f => f)).trans HT.out.cx) HE3.out.1 (by have h1 := blk_lt HT.out.cx; have h2 := HE3.out.2.1; omega) (by have h1 := HT.out.sz; have h2 := HE3.out.2.1; have h3 := HG.out.ch.size; have h4 := HT.out.ch.size; exact ⟨by omega, by omega⟩) k
  obtain ⟨x0, x1, x2, x3⟩ := (HG.out.x.gr HT.out.ch).gr HE3.out.2.2
  gi_upto_region 1 with fail
  refine wpIn_wide.2 ?_
  go_wp2_with fail
  refine (gmay_any g _).mono ?_
  rintro e w4 ⟨rfl, hc4⟩
  obtain ⟨y0, y1, y2, y3⟩ := ((HG.out.x.gr HT.out.ch).gr HE3.out.2.2).gr hc4
  have HC4 := Lib.hid hc4
  clear hc4 x0 x1 x2 x3
  cases hm : mayG g
  · clear hm y0 y1 y2 y3
    obtain ⟨W3, hW3⟩ := HNF.out w4 HC4.out
    have HN3 := Lib.hid hW3
    have c3 := hW3.c3
    have f3 := hW3.f3
    have HBT := Lib.hid (built_tl0 w4)
    clear hW3
    go_wp2_with fail
    gi_upto_region 2 with fail
    refine wpIn_wide.2 ?_
    go_wp2_with (first
      | ((with_reducible refine wpList_isOp (.build 40 #[]) rfl ?_); refine wpList_building _ rfl 40 #[] rfl _ (by exact HBT.out) ?_)
      | ((with_reducible refine wpList_isOp (.store 40 (.tmp 12) (.tmp 43)) rfl ?_); refine wpList_storing _ W3 rfl 40 (.tmp 12) (.tmp 43) rfl (.agg (tlC tl0 0 (.slice none 0 0))) ⟨T, 0, none⟩ rfl rfl (by exact HN3.out.st) ?_)
      | fail)
    gi_wp2
    exact ⟨_, results_fol Tryz.results21 _ _ T E tl0 0 (.slice none 0 0) 1 rfl rfl HN3.out.t HN3.out.e, rfl, HN3.out.ch⟩
  · obtain ⟨w5, hw5⟩ : ∃ w5, w5 = w4.alloc (.cells #[.int .i64 vol, .int .i64 start, .int .i64 chain] 3) := ⟨_, rfl⟩
    have HW5 := Lib.hid hw5
    have HAW := Lib.hid (rareWords_any w4.heap.size 3 (wordsF vol start chain) w5 (by omega) (fun i hi => by
      rw [hw5]
      match i, hi with
      | 0, _ => exact blk_cell (heap_alloc_new _ _)
      | 1, _ => exact blk_cell (heap_alloc_new _ _)
      | 2, _ => exact blk_cell (heap_alloc_new _ _)))
    have HC5 := Lib.hid (show Ch (fun _ => False) w3 w5 by rw [hw5]; exact HC4.out.alloc _ _)
    obtain ⟨x0, x1, x2, x3⟩ := ((HG.out.x.gr HT.out.ch).gr HE3.out.2.2).gr HC5.out
    clear hw5 y0 y1 y2 y3
    go_wp2_with fail
    rw [← HW5.out]
    refine HAW.out.mono ?_
    rintro e w6 ⟨rfl, rfl⟩
    have hno := HNO.out
    unfold okF at hno
    rw [hm, Bool.true_and] at hno
    clear hm
    cases hww : wordsTo (wordsF vol start chain) 3
    · clear hww hno x0 x1 x2 x3
      obtain ⟨W3, hW3⟩ := HNF.out w5 HC5.out
      have HN3 := Lib.hid hW3
      have c3 := hW3.c3
      have f3 := hW3.f3
      have HBT := Lib.hid (built_tl0 w5)
      clear hW3
      go_wp2_with fail
      gi_upto_region 2 with fail
      refine wpIn_wide.2 ?_
      go_wp2_with (first
        | ((with_reducible refine wpList_isOp (.build 40 #[]) rfl ?_); refine wpList_building _ rfl 40 #[] rfl _ (by exact HBT.out) ?_)
        | ((with_reducible refine wpList_isOp (.store 40 (.tmp 12) (.tmp 43)) rfl ?_); refine wpList_storing _ W3 rfl 40 (.tmp 12) (.tmp 43) rfl (.agg (tlC tl0 0 (.slice none 0 0))) ⟨T, 0, none⟩ rfl rfl (by exact HN3.out.st) ?_)
        | fail)
      gi_wp2
      exact ⟨_, results_fol Tryz.results21 _ _ T E tl0 0 (.slice none 0 0) 1 rfl rfl HN3.out.t HN3.out.e, rfl, HN3.out.ch⟩
    · rw [hww, Bool.true_and] at hno
      clear hww
      by_cases q0 : (n0 : Int) = g.wal
      · have q1 : ¬ (n1 : Int) = g.wal := fun e => by rw [decide_eq_true q0, decide_eq_true e] at hno; cases hno
        clear hno
        obtain ⟨W3, hW3⟩ := HNF.out w5 HC5.out
        have HN3 := Lib.hid hW3
        have c3 := hW3.c3
        have f3 := hW3.f3
        have HBT := Lib.hid (built_tl0 w5)
        clear hW3
        go_wp2_with fail
        gi_upto_region 2 with fail
        refine wpIn_wide.2 ?_
        go_wp2_with (first
          | ((with_reducible refine wpList_isOp (.build 40 #[]) rfl ?_); refine wpList_building _ rfl 40 #[] rfl _ (by exact HBT.out) ?_)
          | ((with_reducible refine wpList_isOp (.store 40 (.tmp 12) (.tmp 43)) rfl ?_); refine wpList_storing _ W3 rfl 40 (.tmp 12) (.tmp 43) rfl (.agg (tlC tl0 0 (.slice none 0 0))) ⟨T, 0, none⟩ rfl rfl (by exact HN3.out.st) ?_)
          | fail)
        gi_wp2
        exact ⟨_, results_fol Tryz.results21 _ _ T E tl0 0 (.slice none 0 0) 1 rfl rfl HN3.out.t HN3.out.e, rfl, HN3.out.ch⟩
      · clear hno
        obtain ⟨W3, hW3⟩ := HNF.out w5 HC5.out
        have HN3 := Lib.hid hW3
        have c3 := hW3.c3
        have f3 := hW3.f3
        have HBT := Lib.hid (built_tl0 w5)
        clear hW3
        go_wp2_with fail
        gi_upto_region 2 with fail
        refine wpIn_wide.2 ?_
        go_wp2_with (first
          | ((with_reducible refine wpList_isOp (.build 40 #[]) rfl ?_); refine wpList_building _ rfl 40 #[] rfl _ (by exact HBT.out) ?_)
          | ((with_reducible refine wpList_isOp (.store 40 (.tmp 12) (.tmp 43)) rfl ?_); refine wpList_storing _ W3 rfl 40 (.tmp 12) (.tmp 43) rfl (.agg (tlC tl0 0 (.slice none 0 0))) ⟨T, 0, none⟩ rfl rfl (by exact HN3.out.st) ?_)
          | fail)
        gi_wp2
        exact ⟨_, results_fol Tryz.results21 _ _ T E tl0 0 (.slice none 0 0) 1 rfl rfl HN3.out.t HN3.out.e, rfl, HN3.out.ch⟩
end Go.Proofs.YteleknojohnlbaaGreat
namespace Go.Proofs.YteleknojohnlbaaGreat
open Go.RowKit
set_option linter.unusedVariables false
set_option maxRecDepth 100000
set_option linter.unusedSimpArgs false
structure Rg where
  d : Nat
  vol : Int
  g : Ge
  ep : Int
  fr : Int
  start : Int
  next : Int
  chain : Int
def rgC (x : Rg) : Array Value := #[.pointer (some ⟨x.d, 0, none⟩), .int .i64 x.vol, .int .i64 x.g.wal, .int .i64 x.g.st, .int .i64 x.g.k, .int .i64 x.g.m, .int .i64 x.ep, .int .i64 x.fr, .int .i64 x.start, .int .i64 x.next, .int .i64 x.chain]
def RgIs (w : World) (R : Nat) (x : Rg) : Prop := w.heap[R]? = some (.cells (rgC x) 109 (0, 0))
def cntR (n : Nat) : Int := if ((n : Int) + 199) / 200 ≤ 1 then 1 else ((n : Int) + 199) / 200
theorem rcount_any (A : Option Addr) (n C : Nat) (w : World) (hn : n ≤ 140737488351232) : Calls Tryz.prog 66 #[.slice A n C] w (Ans (.int .i64 (cntR n)) w) := by
  have e1 : wrap64 ((n : Int) + 200) = (n : Int) + 200 := IntWalk.wrap64_in _ ⟨by omega, by omega⟩
  have e2 : wrap64 ((n : Int) + 200 - 1) = (n : Int) + 199 := by rw [IntWalk.wrap64_in _ ⟨by omega, by omega⟩]; omega
  have e3 : wrap64 (((n : Int) + 199).tdiv 200) = ((n : Int) + 199) / 200 := by
    rw [Int.tdiv_eq_ediv_of_nonneg (by omega)]
    exact IntWalk.wrap64_in _ ⟨by omega, by omega⟩
  have HE := Lib.hid e3
  clear hn e3
  go_enter Tryz.func66, Tryz.ntmps66
  go_wp2
  · rw [HE.out] at h ⊢
    go_ret
    exact ⟨ret_int (by unfold cntR; rw [if_neg (by omega)]), Ch.refl _ _⟩
  · rw [HE.out] at h
    go_ret
    exact ⟨ret_int (by unfold cntR; rw [if_pos h]), Ch.refl _ _⟩
end Go.Proofs.YteleknojohnlbaaGreat
namespace Go.Proofs.YteleknojohnlbaaGreat
open Go.RowKit
set_option linter.unusedVariables false
set_option maxRecDepth 100000
set_option linter.unusedSimpArgs false
def wordsN (vol ep start next chain : Int) : Nat → Int := fun i => if i = 0 then vol else if i = 1 then ep else if i = 2 then start else if i = 3 then next else chain
def okN (vol : Int) (g : Ge) (ep start next chain : Int) : Bool := mayG g && (wordsTo (wordsN vol ep start next chain) 5 && inB (next - start) 0 g.wal)
def rgOf (d : Nat) (vol : Int) (g : Ge) (ep start next chain : Int) : Rg := ⟨d, vol, g, ep, next, start, next, chain⟩
theorem built_rg (d : Nat) (vol : Int) (g : Ge) (ep start next chain : Int) (w : World) : (Instr.build 109 #[(0, .pointer (some ⟨d, 0, none⟩)), (1, .int .i64 vol), (2, .agg (geC g)), (3, .int .i64 ep), (4, .int .i64 next), (5, .int .i64 start), (6, .int .i64 next), (7, .int .i64 chain)]).run Tryz.prog w = .ok (.agg (rgC (rgOf d vol g ep start next chain))) w := run_build w _ _ _ (by kernel_rfl)
def NewPost (d : Nat) (vol : Int) (g : Ge) (ep start next chain : Int) (w : World) (e : Ending) (w' : World) : Prop :=
  if okN vol g ep start next chain then ∃ R, e = .returned (.tuple #[.pointer (some ⟨R, 0, none⟩), .int .i64 0]) ∧ w.heap.size ≤ R ∧ RgIs w' R (rgOf d vol g ep start next chain) ∧ Ch (fun _ => False) w w'
  else e = .returned (.tuple #[.pointer none, .int .i64 1]) ∧ Ch (fun _ => False) w w'
theorem newPost_no {d : Nat} {vol : Int} {g : Ge} {ep start next chain : Int} {w w' : World} (h : okN vol g ep start next chain = false) (k : Ch (fun _ => False) w w') : NewPost d vol g ep start next chain w (.returned (.tuple #[.pointer none, .int .i64 1])) w' := by
  unfold NewPost; rw [h]; exact ⟨rfl, k⟩
theorem wordsTo_at {f : Nat → Int} : ∀ {n k : Nat}, wordsTo f n = true → k < n → wordB (f k) = true
  | n + 1, k, h, hk => by
    have h' : (wordsTo f n && wordB (f n)) = true := h
    obtain ⟨h1, h2⟩ := Bool.and_eq_true_iff.1 h'
    by_cases q : k = n
    · subst q; exact h2
    · exact wordsTo_at h1 (by omega)
set_option maxHeartbeats 12800000 in
theorem rgNew_any (d : Nat) (vol : Int) (g : Ge) (ep start next chain : Int) (w : World) : Calls Tryz.prog 26 #[.pointer (some ⟨d, 0, none⟩), .int .i64 vol, .agg (geC g), .int .i64 ep, .int .i64 start, .int .i64 next, .int .i64 chain] w (NewPost d vol g ep start next chain w) := by
  obtain ⟨w1, G, hG⟩ := geR w g
  obtain ⟨x0, x1, x2, x3⟩ := hG.x
  have HG := Lib.hid hG
  clear hG
  have HM := Lib.hid (gmay_any g w1)
  cases hm : mayG g
  · have HN := Lib.hid (show okN vol g ep start next chain = false by unfold okN; rw [hm]; rfl)
    rw [hm] at HM
    clear hm
    go_enter Tryz.func26, Tryz.ntmps26
    go_wp2_with (first
      | ((with_reducible refine wpList_isOp (.box 23 (.tmp 2)) rfl ?_); refine wpList_boxing _ w1 rfl 23 (.tmp 2) rfl (geC g) G rfl (by exact HG.out.sz) (by exact HG.out.al) ?_)
      | fail)
    refine HM.out.mono ?_
    rintro e w2 ⟨rfl, hc⟩
    have HC := Lib.hid hc
    clear hc
    go_wp2
    go_ret2
    exact newPost_no HN.out (HG.out.ch.trans HC.out)
  rw [hm] at HM
  cases hww : wordsTo (wordsN vol ep start next chain) 5
  · have HN := Lib.hid (show okN vol g ep start next chain = false by unfold okN; rw [hm, hww]; rfl)
    have HWW := Lib.hid hww
    clear hm hww
    go_enter Tryz.func26, Tryz.ntmps26
    go_wp2_with (first
      | ((with_reducible refine wpList_isOp (.box 23 (.tmp 2)) rfl ?_); refine wpList_boxing _ w1 rfl 23 (.tmp 2) rfl (geC g) G rfl (by exact HG.out.sz) (by exact HG.out.al) ?_)
      | fail)
    refine HM.out.mono ?_
    rintro e w2 ⟨rfl, hc⟩
    obtain ⟨w5, hw5⟩ : ∃ w5, w5 = w2.alloc (.cells #[.int .i64 vol, .int .i64 ep, .int .i64 start, .int .i64 next, .int .i64 chain] 3) := ⟨_, rfl⟩
    have HW5 := Lib.hid hw5
    have HAW := Lib.hid (rareWords_any w2.heap.size 5 (wordsN vol ep start next chain) w5 (by omega) (fun i hi => by
      rw [hw5]
      match i, hi with
      | 0, _ => exact blk_cell (heap_alloc_new _ _)
      | 1, _ => exact blk_cell (heap_alloc_new _ _)
      | 2, _ => exact blk_cell (heap_alloc_new _ _)
      | 3, _ => exact blk_cell (heap_alloc_new _ _)
      | 4, _ => exact blk_cell (heap_alloc_new _ _)))
    have HC5 := Lib.hid (show Ch (fun _ => False) w1 w5 by rw [hw5]; exact hc.alloc _ _)
    clear hw5 hc x0 x1 x2 x3
    go_wp2_with fail
    rw [← HW5.out]
    refine HAW.out.mono ?_
    rintro e w6 ⟨rfl, rfl⟩
    rw [HWW.out]
    clear HWW
    go_wp2
    go_ret2
    exact newPost_no HN.out (HG.out.ch.trans HC5.out)
  have e1 : wrap64 (next - start) = next - start := IntWalk.wrap64_in _ (by
    have k1 := wordB_iff.1 (wordsTo_at hww (k := 2) (by omega))
    have k2 := wordB_iff.1 (wordsTo_at hww (k := 3) (by omega))
    have k3 : 0 ≤ start ∧ start ≤ 4294967295 := k1
    have k4 : 0 ≤ next ∧ next ≤ 4294967295 := k2
    exact ⟨by omega, by omega⟩)
  cases hin : inB (next - start) 0 g.wal
  · have HN := Lib.hid (show okN vol g ep start next chain = false by unfold okN; rw [hm, hww, hin]; rfl)
    have HIN := Lib.hid hin
    clear hin
    have HWW := Lib.hid hww
    clear hm hww
    go_enter Tryz.func26, Tryz.ntmps26
    go_wp2_with (first
      | ((with_reducible refine wpList_isOp (.box 23 (.tmp 2)) rfl ?_); refine wpList_boxing _ w1 rfl 23 (.tmp 2) rfl (geC g) G rfl (by exact HG.out.sz) (by exact HG.out.al) ?_)
      | fail)
    refine HM.out.mono ?_
    rintro e w2 ⟨rfl, hc⟩
    obtain ⟨w5, hw5⟩ : ∃ w5, w5 = w2.alloc (.cells #[.int .i64 vol, .int .i64 ep, .int .i64 start, .int .i64 next, .int .i64 chain] 3) := ⟨_, rfl⟩
    have HW5 := Lib.hid hw5
    have HAW := Lib.hid (rareWords_any w2.heap.size 5 (wordsN vol ep start next chain) w5 (by omega) (fun i hi => by
      rw [hw5]
      match i, hi with
      | 0, _ => exact blk_cell (heap_alloc_new _ _)
      | 1, _ => exact blk_cell (heap_alloc_new _ _)
      | 2, _ => exact blk_cell (heap_alloc_new _ _)
      | 3, _ => exact blk_cell (heap_alloc_new _ _)
      | 4, _ => exact blk_cell (heap_alloc_new _ _)))
    have HC5 := Lib.hid (show Ch (fun _ => False) w1 w5 by rw [hw5]; exact hc.alloc _ _)
    clear hw5 hc x0 x1 x2 x3
    go_wp2_with fail
    rw [← HW5.out]
    refine HAW.out.mono ?_
    rintro e w6 ⟨rfl, rfl⟩
    rw [HWW.out]
    clear HWW
    obtain ⟨x0, x1, x2, x3⟩ := HG.out.x.gr HC5.out
    go_wp2_with (go_at_call 40; refine (rwithin_any _ _ _ _).mono ?_; rintro e w' ⟨rfl, rfl⟩; rw [HIN.out])
    go_ret2
    exact newPost_no HN.out (HG.out.ch.trans HC5.out)
  · have HN := Lib.hid (show okN vol g ep start next chain = true by unfold okN; rw [hm, hww, hin]; rfl)
    have HIN := Lib.hid hin
    clear hin
    have HWW := Lib.hid hww
    clear hm hww
    go_enter Tryz.func26, Tryz.ntmps26
    go_wp2_with (first
      | ((with_reducible refine wpList_isOp (.box 23 (.tmp 2)) rfl ?_); refine wpList_boxing _ w1 rfl 23 (.tmp 2) rfl (geC g) G rfl (by exact HG.out.sz) (by exact HG.out.al) ?_)
      | fail)
    refine HM.out.mono ?_
    rintro e w2 ⟨rfl, hc⟩
    obtain ⟨w5, hw5⟩ : ∃ w5, w5 = w2.alloc (.cells #[.int .i64 vol, .int .i64 ep, .int .i64 start, .int .i64 next, .int .i64 chain] 3) := ⟨_, rfl⟩
    have HW5 := Lib.hid hw5
    have HAW := Lib.hid (rareWords_any w2.heap.size 5 (wordsN vol ep start next chain) w5 (by omega) (fun i hi => by
      rw [hw5]
      match i, hi with
      | 0, _ => exact blk_cell (heap_alloc_new _ _)
      | 1, _ => exact blk_cell (heap_alloc_new _ _)
      | 2, _ => exact blk_cell (heap_alloc_new _ _)
      | 3, _ => exact blk_cell (heap_alloc_new _ _)
      | 4, _ => exact blk_cell (heap_alloc_new _ _)))
    have HC5 := Lib.hid (show Ch (fun _ => False) w1 w5 by rw [hw5]; exact hc.alloc _ _)
    clear hw5 hc x0 x1 x2 x3
    go_wp2_with fail
    rw [← HW5.out]
    refine HAW.out.mono ?_
    rintro e w6 ⟨rfl, rfl⟩
    rw [HWW.out]
    clear HWW
    obtain ⟨x0, x1, x2, x3⟩ := HG.out.x.gr HC5.out
    obtain ⟨w6, R, hR⟩ := boxR w5 (rgC (rgOf d vol g ep start next chain)) 109
    have HR := Lib.hid hR
    have HBT := Lib.hid (built_rg d vol g ep start next chain w5)
    have HFIN : Hid (NewPost d vol g ep start next chain w (.returned (.tuple #[.pointer (some ⟨R, 0, none⟩), .int .i64 0])) w6) := Lib.hid (by
      unfold NewPost
      rw [HN.out]
      exact ⟨R, rfl, by rw [← hR.sz]; exact (HG.out.ch.trans HC5.out).size, hR.cx, (HG.out.ch.trans HC5.out).trans hR.ch⟩)
    clear hR
    go_wp2_with (first
      | (go_at_call 40; refine (rwithin_any _ _ _ _).mono ?_; rintro e w' ⟨rfl, rfl⟩; rw [HIN.out])
      | ((with_reducible refine wpList_isOp (.build 109 #[(0, .tmp 42), (1, .tmp 43), (2, .tmp 44), (3, .tmp 45), (4, .tmp 46), (5, .tmp 47), (6, .tmp 48), (7, .tmp 49)]) rfl ?_); refine wpList_building _ rfl 109 #[(0, .tmp 42), (1, .tmp 43), (2, .tmp 44), (3, .tmp 45), (4, .tmp 46), (5, .tmp 47), (6, .tmp 48), (7, .tmp 49)] rfl _ (by exact HBT.out) ?_)
      | ((with_reducible refine wpList_isOp (.box 109 (.tmp 50)) rfl ?_); refine wpList_boxing _ w6 rfl 109 (.tmp 50) rfl (rgC (rgOf d vol g ep start next chain)) R rfl (by exact HR.out.sz) (by exact HR.out.al) ?_)
      | fail)
    go_ret2
    exact HFIN.out
end Go.Proofs.YteleknojohnlbaaGreat
