/-
  ring.within, areWords, addr and May, walked. ring.numbers, body and Sector, walked.
-/
import Derived.Test.YteleknojohnlbaaGreatMk21
import Derived.Test.YteleknojohnlbaaGreatMk11
import Derived.Test.YteleknojohnlbaaGreatMk17
import Derived.Test.YteleknojohnlbaaGreatMk13
import Derived.BigRegion
import Derived.BigQuiet
namespace Go.Proofs.YteleknojohnlbaaGreat
open Go.RowKit
set_option linter.unusedVariables false
set_option maxRecDepth 100000
set_option maxHeartbeats 400000 in
theorem rwithin_any (n a b : Int) (w : World) : Calls Tryz.prog 40 #[.int .i64 n, .int .i64 a, .int .i64 b] w fun e w' => e = .returned (.bool (inB n a b)) ∧ w = w' := by
  by_cases h1 : a ≤ n
  · by_cases h2 : n ≤ b
    · have HE := Lib.hid (show inB n a b = true from inB_true.2 ⟨h1, h2⟩)
      have t1 : decide (a ≤ n) = true := decide_eq_true h1
      have t2 : decide (n ≤ b) = true := decide_eq_true h2
      clear h1 h2
      go_enter Tryz.func40, Tryz.ntmps40
      go_wp2
      go_ret
      exact ⟨ret_bool HE.out.symm, rfl⟩
    · have HE := Lib.hid (show inB n a b = false from decide_eq_false fun q => h2 q.2)
      have t1 : decide (a ≤ n) = true := decide_eq_true h1
      have t2 : decide (n ≤ b) = false := decide_eq_false h2
      clear h1 h2
      go_enter Tryz.func40, Tryz.ntmps40
      go_wp2
      go_ret
      exact ⟨ret_bool HE.out.symm, rfl⟩
  · have HE := Lib.hid (show inB n a b = false from decide_eq_false fun q => h1 q.1)
    have t1 : decide (a ≤ n) = false := decide_eq_false h1
    clear h1
    go_enter Tryz.func40, Tryz.ntmps40
    go_wp2
    go_ret
    exact ⟨ret_bool HE.out.symm, rfl⟩
set_option maxHeartbeats 800000 in
theorem rareWords_any (g m : Nat) (f : Nat → Int) (w : World) (hm : m ≤ 8) (h : ∀ i, i < m → w.cell? ⟨g, i, none⟩ = some (.int .i64 (f i))) : Calls Tryz.prog 53 #[.slice (some ⟨g, 0, none⟩) m m] w fun e w' => e = .returned (.bool (wordsTo f m)) ∧ w = w' := by
  have HF := Lib.hid h
  have HM := Lib.hid hm
  clear h hm
  go_enter Tryz.func53, Tryz.ntmps53
  go_wp2
  go_loopw [4, 7, 8, 9, 10, 11, 12, 13, 14] (fun _ i _ _ _ _ _ _ _ wr => ∃ k : Nat, k ≤ m ∧ i = .int .i64 k ∧ wr = w ∧ Hid (wordsTo f k = true)) (fun _ i _ _ _ _ _ _ _ _ => m - (intOf i).toNat)
  case atStart => exact ⟨0, Nat.zero_le _, rfl, rfl, Lib.hid rfl⟩
  case round =>
    obtain ⟨k, hk, rfl, rfl, HK⟩ := hrel
    by_cases hlt : k < m
    · have c1 := HF.out k hlt
      have i1 : (0 : Int) ≤ (k : Int) := Int.natCast_nonneg _
      have i2 : (k : Int) < (m : Int) := by omega
      have i3 : (k : Int) ≤ 8 := by have := HM.out; omega
      have HLT := Lib.hid hlt
      clear hlt
      cases hf : wordB (f k)
      · have HN := Lib.hid (wordsTo_false (f := f) HLT.out hf)
        have HQ := Lib.hid (show inB (f k) 0 4294967295 = false from hf)
        clear hf
        go_wp2_with (go_at_call 40; refine (rwithin_any _ _ _ _).mono ?_; rintro e w' ⟨rfl, rfl⟩; rw [HQ.out])
        go_ret
        exact ⟨ret_bool HN.out.symm, rfl⟩
      · have HN := Lib.hid (show wordsTo f (k + 1) = true by
          show (wordsTo f k && wordB (f k)) = true
          rw [HK.out, hf]; rfl)
        have HQ := Lib.hid (show inB (f k) 0 4294967295 = true from hf)
        clear hf
        go_wp2_with (go_at_call 40; refine (rwithin_any _ _ _ _).mono ?_; rintro e w' ⟨rfl, rfl⟩; rw [HQ.out])
        go_roundw
        case rel => exact ⟨k + 1, HLT.out, by go_num, by trivial, HN⟩
        case measure => have := HLT.out; simp [intOf]; omega
    · obtain rfl : k = m := by omega
      clear hlt hk
      go_wp2
      go_ret
      exact ⟨ret_bool HK.out.symm, rfl⟩
set_option maxHeartbeats 400000 in
theorem raddr_any (g : Ge) (mir slot : Int) (w : World) (hg : mayG g = true) (hm : 0 ≤ mir ∧ mir ≤ 1) (hs : 0 ≤ slot ∧ slot < g.wal) : Calls Tryz.prog 42 #[.agg (geC g), .int .i64 mir, .int .i64 slot] w (Ans (.int .i64 (addrR g mir slot)) w) := by
  obtain ⟨w1, H, hR⟩ := geR w g
  obtain ⟨x0, x1, x2, x3⟩ := hR.x
  have HR := Lib.hid hR
  have HA := Lib.hid (show addrR g mir slot = 4 + mir * g.wal + slot from rfl)
  obtain ⟨⟨a1, a2⟩, _⟩ := may_parts hg
  have HB : Hid (0 ≤ mir * g.wal ∧ mir * g.wal ≤ 512) := by
    refine Lib.hid ?_
    obtain rfl | rfl : mir = 0 ∨ mir = 1 := by omega
    · omega
    · omega
  obtain ⟨W, hW⟩ : ∃ W, W = g.wal := ⟨_, rfl⟩
  rw [← hW] at HA HB x0 hs a2
  obtain ⟨X, hX⟩ : ∃ X, X = mir * W := ⟨_, rfl⟩
  have hw : wrap64 (mir * W) = X := by rw [hX]; exact IntWalk.wrap64_in _ ⟨by have := HB.out; omega, by have := HB.out; omega⟩
  have b1 : 0 ≤ X := by rw [hX]; exact HB.out.1
  have b2 : X ≤ 512 := by rw [hX]; exact HB.out.2
  rw [← hX] at HA
  obtain ⟨b3, b4⟩ := hs
  have b5 : slot ≤ 512 := by omega
  clear hR HB hW hX x1 x2 x3 hm a1 b4 a2 hg
  go_enter Tryz.func42, Tryz.ntmps42
  go_wp2_with ((with_reducible refine wpList_isOp (.box 23 (.tmp 0)) rfl ?_); refine wpList_boxing _ w1 rfl 23 (.tmp 0) rfl (geC g) H rfl (by exact HR.out.sz) (by exact HR.out.al) ?_)
  go_ret
  exact ⟨ret_int HA.out.symm, HR.out.ch⟩
theorem words_piece (p : Pn) : wordsTo (fourI p.seq p.ep p.fr p.ch) 4 = wordsP p := by
  show ((((true && wordS p.seq) && wordS p.ep) && wordS p.fr) && wordS p.ch) = _
  unfold wordsP
  rw [Bool.true_and, Bool.and_assoc, Bool.and_assoc]
set_option maxHeartbeats 3200000 in
theorem rgMay_any (p : Pn) (A : Option Addr) (C : Nat) (w : World) (hl : p.B.length ≤ 140737488351232) : Calls Tryz.prog 18 #[.agg (pcC p (.slice A p.B.length C))] w (Ans (.bool (mayP p)) w) := by
  obtain ⟨w1, H, hR⟩ := boxR w (pcC p (.slice A p.B.length C)) 26
  obtain ⟨x0, x1, x2, x3, x4, x5, x6⟩ := pc_x hR.cx
  obtain ⟨w2, hw2⟩ : ∃ w2, w2 = w1.alloc (.cells #[.int .i64 p.seq, .int .i64 p.ep, .int .i64 p.fr, .int .i64 p.ch] /-t-/3) := ⟨_, rfl⟩
  have hc : Ch (fun _ => False) w1 w2 := by rw [hw2]; exact (Ch.refl _ w1).alloc _ _
  obtain ⟨y0, y1, y2, y3, y4, y5, y6⟩ := (pc_x hR.cx).gr hc
  have HC := Lib.hid (hR.ch.trans hc)
  have HF := Lib.hid (fun i (hi : i < 4) => four_cell (w := w2) (g := w1.heap.size) (i := i) (by rw [hw2]; exact heap_alloc_new w1 _) hi)
  have HP := Lib.hid (show mayP p = (wordsP p && (decide (p.fr ≤ p.seq) && (inB p.ofn 1 64 && (inB p.ix 0 (p.ofn - 1) && decide (p.B.length ≤ 200))))) from rfl)
  have HW := Lib.hid (words_piece p)
  have HR := Lib.hid hR
  have HW2 := Lib.hid hw2
  obtain ⟨n, hn⟩ : ∃ n, n = p.B.length := ⟨_, rfl⟩
  rw [← hn] at HP x6 y6 hl HR ⊢
  clear hR hc hw2 hn
  cases q1 : wordsP p
  · have HE := Lib.hid (show mayP p = false by rw [HP.out, q1]; rfl)
    rw [q1] at HW
    clear q1 HP
    go_enter Tryz.func18, Tryz.ntmps18
    go_wp2_with (first | ((with_reducible refine wpList_isOp (.box 26 (.tmp 0)) rfl ?_); refine wpList_boxing _ w1 rfl 26 (.tmp 0) rfl (pcC p (.slice A n C)) H rfl (by exact HR.out.sz) (by exact HR.out.al) ?_) | (go_at_call 53; rw [← HW2.out]; refine (rareWords_any w1.heap.size 4 _ w2 (by omega) HF.out).mono ?_; rintro e w' ⟨rfl, rfl⟩; rw [HW.out]))
    go_ret
    exact ⟨ret_bool HE.out.symm, HC.out⟩
  rw [q1] at HW
  by_cases q2 : p.fr ≤ p.seq
  · have t2 : decide (p.fr ≤ p.seq) = true := decide_eq_true q2
    cases q3 : inB p.ofn 1 64
    · have HE := Lib.hid (show mayP p = false by rw [HP.out, q1, t2, q3]; rfl)
      have H3 := Lib.hid q3
      clear q1 q3 HP q2
      go_enter Tryz.func18, Tryz.ntmps18
      go_wp2_with (first | ((with_reducible refine wpList_isOp (.box 26 (.tmp 0)) rfl ?_); refine wpList_boxing _ w1 rfl 26 (.tmp 0) rfl (pcC p (.slice A n C)) H rfl (by exact HR.out.sz) (by exact HR.out.al) ?_) | (go_at_call 53; rw [← HW2.out]; refine (rareWords_any w1.heap.size 4 _ w2 (by omega) HF.out).mono ?_; rintro e w' ⟨rfl, rfl⟩; rw [HW.out]) | (go_at_call 40; refine (rwithin_any _ _ _ _).mono ?_; rintro e w' ⟨rfl, rfl⟩; rw [H3.out]))
      go_ret
      exact ⟨ret_bool HE.out.symm, HC.out⟩
    have b3 := inB_true.1 q3
    cases q4 : inB p.ix 0 (p.ofn - 1)
    · have HE := Lib.hid (show mayP p = false by rw [HP.out, q1, t2, q3, q4]; rfl)
      have H3 := Lib.hid q3
      have H4 := Lib.hid q4
      clear q1 q3 q4 HP q2
      go_enter Tryz.func18, Tryz.ntmps18
      go_wp2_with (first | ((with_reducible refine wpList_isOp (.box 26 (.tmp 0)) rfl ?_); refine wpList_boxing _ w1 rfl 26 (.tmp 0) rfl (pcC p (.slice A n C)) H rfl (by exact HR.out.sz) (by exact HR.out.al) ?_) | (go_at_call 53; rw [← HW2.out]; refine (rareWords_any w1.heap.size 4 _ w2 (by omega) HF.out).mono ?_; rintro e w' ⟨rfl, rfl⟩; rw [HW.out]) | (go_at_call 40; refine (rwithin_any _ _ _ _).mono ?_; rintro e w' ⟨rfl, rfl⟩; first | rw [H3.out] | rw [H4.out]))
      go_ret
      exact ⟨ret_bool HE.out.symm, HC.out⟩
    have HE := Lib.hid (show mayP p = decide (n ≤ 200) by rw [HP.out, q1, t2, q3, q4]; rfl)
    have H3 := Lib.hid q3
    have H4 := Lib.hid q4
    clear q1 q3 q4 HP q2
    by_cases q5 : n ≤ 200
    · have t5 : decide ((n : Int) ≤ 200) = true := by simp; omega
      have H5 := Lib.hid (show decide (n ≤ 200) = true from decide_eq_true q5)
      clear q5
      go_enter Tryz.func18, Tryz.ntmps18
      go_wp2_with (first | ((with_reducible refine wpList_isOp (.box 26 (.tmp 0)) rfl ?_); refine wpList_boxing _ w1 rfl 26 (.tmp 0) rfl (pcC p (.slice A n C)) H rfl (by exact HR.out.sz) (by exact HR.out.al) ?_) | (go_at_call 53; rw [← HW2.out]; refine (rareWords_any w1.heap.size 4 _ w2 (by omega) HF.out).mono ?_; rintro e w' ⟨rfl, rfl⟩; rw [HW.out]) | (go_at_call 40; refine (rwithin_any _ _ _ _).mono ?_; rintro e w' ⟨rfl, rfl⟩; first | rw [H3.out] | rw [H4.out]))
      go_ret
      exact ⟨ret_bool (by rw [HE.out, H5.out]), HC.out⟩
    · have t5 : decide ((n : Int) ≤ 200) = false := by simp; omega
      have H5 := Lib.hid (show decide (n ≤ 200) = false from decide_eq_false q5)
      clear q5
      go_enter Tryz.func18, Tryz.ntmps18
      go_wp2_with (first | ((with_reducible refine wpList_isOp (.box 26 (.tmp 0)) rfl ?_); refine wpList_boxing _ w1 rfl 26 (.tmp 0) rfl (pcC p (.slice A n C)) H rfl (by exact HR.out.sz) (by exact HR.out.al) ?_) | (go_at_call 53; rw [← HW2.out]; refine (rareWords_any w1.heap.size 4 _ w2 (by omega) HF.out).mono ?_; rintro e w' ⟨rfl, rfl⟩; rw [HW.out]) | (go_at_call 40; refine (rwithin_any _ _ _ _).mono ?_; rintro e w' ⟨rfl, rfl⟩; first | rw [H3.out] | rw [H4.out]))
      go_ret
      exact ⟨ret_bool (by rw [HE.out, H5.out]), HC.out⟩
  · have t2 : decide (p.fr ≤ p.seq) = false := decide_eq_false q2
    have HE := Lib.hid (show mayP p = false by rw [HP.out, q1, t2]; rfl)
    clear q1 q2 HP
    go_enter Tryz.func18, Tryz.ntmps18
    go_wp2_with (first | ((with_reducible refine wpList_isOp (.box 26 (.tmp 0)) rfl ?_); refine wpList_boxing _ w1 rfl 26 (.tmp 0) rfl (pcC p (.slice A n C)) H rfl (by exact HR.out.sz) (by exact HR.out.al) ?_) | (go_at_call 53; rw [← HW2.out]; refine (rareWords_any w1.heap.size 4 _ w2 (by omega) HF.out).mono ?_; rintro e w' ⟨rfl, rfl⟩; rw [HW.out]))
    go_ret
    exact ⟨ret_bool HE.out.symm, HC.out⟩
end Go.Proofs.YteleknojohnlbaaGreat
namespace Go.Proofs.YteleknojohnlbaaGreat
open Go.RowKit
set_option linter.unusedVariables false
set_option maxRecDepth 100000
def ptr4 (H : Nat) : Array Value := #[.pointer (some ⟨H, 2, none⟩), .pointer (some ⟨H, 3, none⟩), .pointer (some ⟨H, 4, none⟩), .pointer (some ⟨H, 5, none⟩)]
theorem ptr4_cells (H : Nat) {c : Nat} (hc : c < 4) : (ptr4 H)[c]? = some (.pointer (some ⟨H, 2 + c, none⟩)) := by
  match c, hc with
  | 0, _ => rfl
  | 1, _ => rfl
  | 2, _ => rfl
  | 3, _ => rfl
set_option maxHeartbeats 1600000 in
theorem rnumbers4_any (H : Nat) (w : World) : Calls Tryz.prog 74 #[.pointer (some ⟨H, 0, none⟩)] w fun e w' => ∃ G, e = .returned (.slice (some ⟨G, 0, none⟩) 4 4) ∧ w'.heap[G]? = some (.cells (ptr4 H) 136 (0, 0)) ∧ Ch (fun _ => False) w w' := by
  go_enter Tryz.func74, Tryz.ntmps74
  go_wp2
  go_region_held3 (fun _ => True) (first | trivial) (first | (fail))
  obtain ⟨G, hG⟩ : ∃ G, G = w.heap.size := ⟨_, rfl⟩
  obtain ⟨w2, hw2⟩ : ∃ w2, w2 = (w.alloc (.cells (ptr4 H) 136)).drew := ⟨_, rfl⟩
  have hc2 : Ch (fun _ => False) w w2 := by rw [hw2]; exact ((Ch.refl _ w).alloc _ _).drew
  have HG2 := Lib.hid (show w2.heap[G]? = some (.cells (ptr4 H) 136 (0, 0)) by rw [hw2, hG]; exact heap_alloc_new w _)
  have HC2 := Lib.hid hc2
  unfold ptr4 at hw2
  rw [← hw2, ← hG]
  clear hw2 hG hc2
  go_wp2
  go_ret
  exact ⟨G, rfl, HG2.out, HC2.out⟩
def LaysR (w : World) (B H : Nat) (p : Pn) (V : Value) (j : Nat) (wr : World) : Prop := wr.heap[H]? = some (.cells (pcC p V) 26 (0, 0)) ∧ ∃ v, OutIs w.heap.size wr B v (prefR p j) ∧ Ch (fun _ => False) w wr
theorem LaysR.gr {w : World} {B H : Nat} {p : Pn} {V : Value} {j : Nat} {wr w' : World} (h : LaysR w B H p V j wr) (k : Ch (fun _ => False) wr w') : LaysR w B H p V j w' := by
  obtain ⟨h1, v, h2, h3⟩ := h
  exact ⟨(k.block H (blk_lt h1) (fun f => f)).trans h1, v, h2.ch k (fun _ _ f => f), h3.trans k⟩
theorem numR_cell {w : World} {H : Nat} {p : Pn} {V : Value} (h : w.heap[H]? = some (.cells (pcC p V) 26 (0, 0))) {j : Nat} (hj : j < 4) : w.cell? ⟨H, 2 + j, none⟩ = some (.int .i64 (numR p j)) := by
  rw [blk_cell h]
  match j, hj with
  | 0, _ => rfl
  | 1, _ => rfl
  | 2, _ => rfl
  | 3, _ => rfl
set_option maxHeartbeats 3200000 in
theorem rbody_any (p : Pn) (A : Option Addr) (C : Nat) (hm : mayP p = true) (w : World) (hr : RowV w (.slice A p.B.length C) p.B.length (Cod.litZ p.B)) : Calls Tryz.prog 43 #[.agg (pcC p (.slice A p.B.length C))] w (NewL (bodyR p).length (Cod.litZ (bodyR p)) w) := by
  have hoff : Off (fun i => w.heap.size ≤ i) (.slice A p.B.length C) := hr.low
  have hlen := (mayP_iff.1 hm).len
  obtain ⟨V, hV⟩ : ∃ V, V = Value.slice A p.B.length C := ⟨_, rfl⟩
  have HV := Lib.hid hV
  rw [← hV]
  obtain ⟨w1, H, hR⟩ := boxR w (pcC p V) 26
  obtain ⟨w2, hw2⟩ : ∃ w2, w2 = w1.alloc (.cells #[.slice none 0 0] 132) := ⟨_, rfl⟩
  obtain ⟨B, hB⟩ : ∃ B, B = w1.heap.size := ⟨_, rfl⟩
  have hc12 : Ch (fun _ => False) w1 w2 := by rw [hw2]; exact (Ch.refl _ w1).alloc _ _
  have HP2 := Lib.hid (show LaysR w B H p V 0 w2 from ⟨(hc12.block H (blk_lt hR.cx) (fun f => f)).trans hR.cx, _, by rw [hw2, hB]; exact nil_out w.heap.size w1 hR.ch.size, hR.ch.trans hc12⟩)
  have HL := Lib.hid (prefR_len hm)
  have HN := Lib.hid (numR_in hm)
  have HRV := Lib.hid hr
  have HOF := Lib.hid hoff
  have HLE := Lib.hid hlen
  have HMM := Lib.hid hm
  have HR := Lib.hid hR
  clear hR hc12 hr hoff hlen hm hV
  go_enter Tryz.func43, Tryz.ntmps43
  go_wp2_with ((with_reducible refine wpList_isOp (.box 26 (.tmp 0)) rfl ?_); refine wpList_boxing _ w1 rfl 26 (.tmp 0) rfl (pcC p V) H rfl (by exact HR.out.sz) (by exact HR.out.al) ?_)
  rw [← hw2, ← hB]
  clear hw2 hB
  refine (rnumbers4_any H w2).mono ?_
  rintro e w3 ⟨G, rfl, hg, hc3⟩
  have HG3 := Lib.hid hg
  have HP3 := Lib.hid (HP2.out.gr hc3)
  clear hg hc3
  go_wp2
  go_loopw [5, 8, 9, 10, 11, 12, 13, 14, 15, 16] (fun _ i _ _ _ _ _ _ _ _ wr => ∃ k : Nat, k ≤ 4 ∧ i = .int .i64 k ∧ Hid (LaysR w B H p V k wr) ∧ Hid (wr.heap[G]? = some (.cells (ptr4 H) 136 (0, 0)))) (fun _ i _ _ _ _ _ _ _ _ _ => 4 - (intOf i).toNat)
  case atStart => exact ⟨0, Nat.zero_le _, rfl, HP3, HG3⟩
  case round =>
    obtain ⟨k, hk, rfl, HP, HGR⟩ := hrel
    by_cases hlt : k < 4
    · have i1 : (0 : Int) ≤ (k : Int) := Int.natCast_nonneg _
      have i2 : (k : Int) < 4 := by omega
      have hcell : wr.cell? ⟨G, k, none⟩ = some (.pointer (some ⟨H, 2 + k, none⟩)) := by rw [blk_cell HGR.out]; exact ptr4_cells H hlt
      obtain ⟨h1, v, h2, h3⟩ := HP.out
      have b := HN.out k
      have hl := HL.out k
      have hc := numR_cell h1 hlt
      obtain ⟨N, hNn⟩ : ∃ N, N = (numR p k).toNat := ⟨_, rfl⟩
      rw [show numR p k = (N : Int) by omega] at hc
      have hO := onum_any w.heap.size B N v (prefR p k) wr (by omega) h2 h3.size (by omega)
      rw [hNn, ← prefR_snoc] at hO
      have HO := Lib.hid hO
      have HAH := Lib.hid (show ¬ FootO B v H from foot_apart h2 h1 (by decide) (by decide))
      have HAG := Lib.hid (show ¬ FootO B v G from foot_apart h2 HGR.out (by decide) (by decide))
      have H1 := Lib.hid h1
      have H2 := Lib.hid h2
      have H3 := Lib.hid h3
      have HLT := Lib.hid hlt
      rw [← hNn] at HO
      obtain ⟨o, ho⟩ : ∃ o, o = 2 + k := ⟨_, rfl⟩
      rw [← ho] at hcell hc
      clear ho hNn b hl h1 h2 h3 hO hlt HP
      go_wp2_with (go_at_call 75; refine HO.out.mono ?_; rintro e w3 ⟨rfl, v', q1, q2, q3⟩; have HP4 := Lib.hid (show LaysR w B H p V (k + 1) w3 from ⟨(q3.block H (blk_lt H1.out) HAH.out).trans H1.out, v', q1, H3.out.new (q3.mono fun i _ hi => H2.out.foot hi)⟩); have HG4 := Lib.hid ((q3.block G (blk_lt HGR.out) HAG.out).trans HGR.out); clear q1 q2 q3)
      go_roundw
      case rel => exact ⟨k + 1, HLT.out, by go_num, HP4, HG4⟩
      case measure => have := HLT.out; simp [intOf]; omega
    · obtain rfl : k = 4 := by omega
      obtain ⟨h1, v, h2, h3⟩ := HP.out
      have hx := (HRV.out).gr h3
      have hof : Off (FootO B v) (.slice A p.B.length C) := HOF.out.mono fun i hi => h2.foot hi
      have hO := obytes_any w.heap.size B p.B.length C A (Cod.litZ p.B) v (prefR p 4) wr (by have := HLE.out; omega) h2 hx hof h3.size (by have := HL.out 4; omega)
      rw [byL_own, show prefR p 4 ++ byR p = bodyR p from rfl] at hO
      have hc6 : wr.cell? ⟨H, 6, none⟩ = some V := blk_cell h1
      rw [HV.out] at hc6
      have HO := Lib.hid hO
      have H2 := Lib.hid h2
      have H3 := Lib.hid h3
      clear hlt hk hx hof hO h1 h2 h3
      rw [show ((4 : Nat) : Int) = 4 from rfl]
      go_wp2_with (first
        | (go_at_call 76; refine HO.out.mono ?_; rintro e w3 ⟨rfl, v', q1, q2, q3⟩; have HA := Lib.hid (all_any w.heap.size B v' (bodyR p) w3 q1 (by have := body_lenR HMM.out; omega)); have HC := Lib.hid (H3.out.new (q3.mono fun i _ hi => H2.out.foot hi)); clear q1 q2 q3)
        | (go_at_call 77; refine HA.out.mono ?_; rintro e w4 ⟨r, rfl, q1, q2⟩; have HQ := Lib.hid q1; have HC4 := Lib.hid (HC.out.trans q2); clear q1 q2))
      go_ret
      obtain ⟨q0, q⟩ := HQ.out
      exact ⟨r, rfl, ⟨q0, q.elim Or.inl fun ⟨g, cap, cur, q1, q2, q3⟩ => Or.inr ⟨g, cap, cur, q1, Nat.le_trans HC.out.size q2, q3⟩⟩, HC4.out⟩
theorem rok_may {vol : Int} {g : Ge} {mir : Int} {p : Pn} (h : mayP p = false) : rokB vol g mir p = false := by unfold rokB; rw [h]; rfl
theorem rok_geo {vol : Int} {g : Ge} {mir : Int} {p : Pn} (h : mayG g = false) : rokB vol g mir p = false := by unfold rokB; rw [h, Bool.false_and, Bool.and_false]
theorem rok_mir {vol : Int} {g : Ge} {mir : Int} {p : Pn} (h : mirB mir = false) : rokB vol g mir p = false := by unfold rokB; rw [h, Bool.false_and, Bool.and_false, Bool.and_false]
theorem rinB_is {w : World} {vol : Int} {g : Ge} {mir : Int} {p : Pn} {V : Value} (hp : mayP p = true) (hg : mayG g = true) (hm : mirB mir = true) (hv : N64 vol) (hr : RowV w V (bodyR p).length (Cod.litZ (bodyR p))) : BkIs w (rinB vol g mir p V) := by
  have m := mayP_iff.1 hp
  have m1 := m.seq
  have m2 := m.ep
  have a := addr_in hg (inB_true.1 hm) (slot_in hg m1.1)
  refine ⟨?_, hv, ?_, ?_, ?_, hr⟩
  · show N64 3; unfold N64; omega
  · show N64 (addrR g mir (p.seq % g.wal)); unfold N64; omega
  · show N64 p.ep; unfold N64; omega
  · show N64 p.seq; unfold N64; omega
structure PcIs (w : World) (p : Pn) (V : Value) : Prop where
  row : RowV w V p.B.length (Cod.litZ p.B)
  byt : ∀ x ∈ p.B, x < 256
theorem PcIs.gr {w w' : World} {p : Pn} {V : Value} (h : PcIs w p V) (k : Ch (fun _ => False) w w') : PcIs w' p V := ⟨h.row.gr k, h.byt⟩
set_option maxHeartbeats 6400000 in
theorem rsector_any (vol : Int) (g : Ge) (mir : Int) (p : Pn) (V : Value) (w : World) (hv : N64 vol) (h : PcIs w p V) : Calls Tryz.prog 12 #[.int .i64 vol, .agg (geC g), .int .i64 mir, .agg (pcC p V)] w (SecRPost vol g mir p w) := by
  obtain ⟨A, C, hV, hVl, _⟩ := id h.row
  subst hV
  obtain ⟨w0, HG, hRG⟩ := geR w g
  obtain ⟨w1, H, hR⟩ := boxR w0 (pcC p (.slice A p.B.length C)) 26
  have HLp := Lib.hid (load_pc hR.cx)
  have hGx := hRG.x.gr hR.ch
  have HGL := Lib.hid (show w1.heap[HG]? = some (.cells (geC g) 23 (0, 0)) from (hR.ch.block HG (blk_lt hRG.cx) (fun f => f)).trans hRG.cx)
  have HM := Lib.hid (rgMay_any p A C w1 hVl.1)
  have HCH := Lib.hid (hRG.ch.trans hR.ch)
  have HPX := Lib.hid (pc_x hR.cx)
  have HGX := Lib.hid hGx
  have HIS := Lib.hid ((h.gr hRG.ch).gr hR.ch)
  have HR := Lib.hid hR
  have HRG := Lib.hid hRG
  have HVL := Lib.hid hv
  clear hR hRG hGx h hv hVl
  cases hm : mayP p
  · have HN := Lib.hid (rok_may (vol := vol) (g := g) (mir := mir) hm)
    rw [hm] at HM
    clear hm
    go_enter Tryz.func12, Tryz.ntmps12
    go_wp2_with (first | ((with_reducible refine wpList_isOp (.box 23 (.tmp 1)) rfl ?_); refine wpList_boxing _ w0 rfl 23 (.tmp 1) rfl (geC g) HG rfl (by exact HRG.out.sz) (by exact HRG.out.al) ?_) | ((with_reducible refine wpList_isOp (.box 26 (.tmp 3)) rfl ?_); refine wpList_boxing _ w1 rfl 26 (.tmp 3) rfl (pcC p (.slice A p.B.length C)) H rfl (by exact HR.out.sz) (by exact HR.out.al) ?_) | ((with_reducible refine wpList_isOp (.load 26 (.tmp 7)) rfl ?_); refine wpList_loading _ rfl 26 (.tmp 7) rfl (.agg (pcC p (.slice A p.B.length C))) ⟨H, 0, none⟩ rfl (by exact HLp.out) ?_) | (go_at_call 18; refine HM.out.mono ?_; rintro e w2 ⟨rfl, hc2⟩))
    go_ret2
    exact secRPost_no HN.out (HCH.out.trans hc2)
  rw [hm] at HM
  cases hg : mayG g
  · have HN := Lib.hid (rok_geo (vol := vol) (mir := mir) (p := p) hg)
    have HQ := Lib.hid hg
    clear hm hg
    go_enter Tryz.func12, Tryz.ntmps12
    go_wp2_with (first | ((with_reducible refine wpList_isOp (.box 23 (.tmp 1)) rfl ?_); refine wpList_boxing _ w0 rfl 23 (.tmp 1) rfl (geC g) HG rfl (by exact HRG.out.sz) (by exact HRG.out.al) ?_) | ((with_reducible refine wpList_isOp (.box 26 (.tmp 3)) rfl ?_); refine wpList_boxing _ w1 rfl 26 (.tmp 3) rfl (pcC p (.slice A p.B.length C)) H rfl (by exact HR.out.sz) (by exact HR.out.al) ?_) | ((with_reducible refine wpList_isOp (.load 26 (.tmp 7)) rfl ?_); refine wpList_loading _ rfl 26 (.tmp 7) rfl (.agg (pcC p (.slice A p.B.length C))) ⟨H, 0, none⟩ rfl (by exact HLp.out) ?_) | (go_at_call 18; refine HM.out.mono ?_; rintro e w2 ⟨rfl, hc2⟩; obtain ⟨x0, x1, x2, x3⟩ := HGX.out.gr hc2) | (go_at_call 39; refine (gmay_any g _).mono ?_; rintro e w3 ⟨rfl, hc3⟩; rw [HQ.out]))
    go_ret2
    exact secRPost_no HN.out ((HCH.out.trans hc2).trans hc3)
  cases hr : mirB mir
  · have HN := Lib.hid (rok_mir (vol := vol) (g := g) (p := p) hr)
    have HQ := Lib.hid hg
    have HQ2 := Lib.hid (show inB mir 0 1 = false from hr)
    clear hm hg hr
    go_enter Tryz.func12, Tryz.ntmps12
    go_wp2_with (first | ((with_reducible refine wpList_isOp (.box 23 (.tmp 1)) rfl ?_); refine wpList_boxing _ w0 rfl 23 (.tmp 1) rfl (geC g) HG rfl (by exact HRG.out.sz) (by exact HRG.out.al) ?_) | ((with_reducible refine wpList_isOp (.box 26 (.tmp 3)) rfl ?_); refine wpList_boxing _ w1 rfl 26 (.tmp 3) rfl (pcC p (.slice A p.B.length C)) H rfl (by exact HR.out.sz) (by exact HR.out.al) ?_) | ((with_reducible refine wpList_isOp (.load 26 (.tmp 7)) rfl ?_); refine wpList_loading _ rfl 26 (.tmp 7) rfl (.agg (pcC p (.slice A p.B.length C))) ⟨H, 0, none⟩ rfl (by exact HLp.out) ?_) | (go_at_call 18; refine HM.out.mono ?_; rintro e w2 ⟨rfl, hc2⟩; obtain ⟨x0, x1, x2, x3⟩ := HGX.out.gr hc2) | (go_at_call 39; refine (gmay_any g _).mono ?_; rintro e w3 ⟨rfl, hc3⟩; rw [HQ.out]) | (go_at_call 40; refine (rwithin_any _ _ _ _).mono ?_; rintro e w' ⟨rfl, rfl⟩; rw [HQ2.out]))
    go_ret2
    exact secRPost_no HN.out ((HCH.out.trans hc2).trans hc3)
  have HQ := Lib.hid hg
  have HQ2 := Lib.hid (show inB mir 0 1 = true from hr)
  have HMM := Lib.hid hm
  have HMR := Lib.hid hr
  have hsq := (mayP_iff.1 hm).seq
  have hsl := slot_in hg hsq.1
  obtain ⟨⟨wa, wb⟩, _⟩ := may_parts hg
  have HAD := Lib.hid (fun w => raddr_any g mir (p.seq % g.wal) w hg (inB_true.1 hr) hsl)
  have HTM := Lib.hid (show p.seq.tmod g.wal = p.seq % g.wal from Int.tmod_eq_emod_of_nonneg hsq.1)
  have wz : ¬ g.wal = 0 := by omega
  clear hm hg hr hsl
  go_enter Tryz.func12, Tryz.ntmps12
  go_wp2_with (first | ((with_reducible refine wpList_isOp (.box 23 (.tmp 1)) rfl ?_); refine wpList_boxing _ w0 rfl 23 (.tmp 1) rfl (geC g) HG rfl (by exact HRG.out.sz) (by exact HRG.out.al) ?_) | ((with_reducible refine wpList_isOp (.box 26 (.tmp 3)) rfl ?_); refine wpList_boxing _ w1 rfl 26 (.tmp 3) rfl (pcC p (.slice A p.B.length C)) H rfl (by exact HR.out.sz) (by exact HR.out.al) ?_) | ((with_reducible refine wpList_isOp (.load 26 (.tmp 7)) rfl ?_); refine wpList_loading _ rfl 26 (.tmp 7) rfl (.agg (pcC p (.slice A p.B.length C))) ⟨H, 0, none⟩ rfl (by exact HLp.out) ?_) | (go_at_call 18; refine HM.out.mono ?_; rintro e w2 ⟨rfl, hc2⟩; obtain ⟨x0, x1, x2, x3⟩ := HGX.out.gr hc2) | (go_at_call 39; refine (gmay_any g _).mono ?_; rintro e w3 ⟨rfl, hc3⟩; rw [HQ.out]) | (go_at_call 40; refine (rwithin_any _ _ _ _).mono ?_; rintro e w' ⟨rfl, rfl⟩; rw [HQ2.out]))
  have HPX3 := Lib.hid ((HPX.out.gr hc2).gr hc3)
  have HGX3 := Lib.hid ((HGX.out.gr hc2).gr hc3)
  have HIS3 := Lib.hid ((HIS.out.gr hc2).gr hc3)
  have HC3 := Lib.hid ((HCH.out.trans hc2).trans hc3)
  clear hc2 hc3 x0 x1 x2 x3
  obtain ⟨x0, x1, x2, x3⟩ := HGX3.out
  obtain ⟨y0, y1, y2, y3, y4, y5, y6⟩ := HPX3.out
  go_region_held3 (fun w' => ((fun w' => w'.cell? ⟨H, 0, none⟩ = some (.int .i64 (p).seq) ∧ w'.cell? ⟨H, 1, none⟩ = some (.int .i64 (p).ep) ∧ w'.cell? ⟨H, 2, none⟩ = some (.int .i64 (p).fr) ∧ w'.cell? ⟨H, 3, none⟩ = some (.int .i64 (p).ch) ∧ w'.cell? ⟨H, 4, none⟩ = some (.int .i64 (p).ix) ∧ w'.cell? ⟨H, 5, none⟩ = some (.int .i64 (p).ofn) ∧ w'.cell? ⟨H, 6, none⟩ = some (.slice A p.B.length C)) w') ∧ w'.cell? ⟨HG, 0, none⟩ = some (.int .i64 g.wal) ∧ w'.cell? ⟨HG, 1, none⟩ = some (.int .i64 g.st) ∧ w'.cell? ⟨HG, 2, none⟩ = some (.int .i64 g.k) ∧ w'.cell? ⟨HG, 3, none⟩ = some (.int .i64 g.m)) (first | exact kb | exact ka | exact kc | go_keep)
    (first
      | (go_at_call 42; rw [HTM.out]; refine (HAD.out _).mono ?_; rintro e w4 ⟨rfl, q4⟩; have HP4 := Lib.hid (HPX3.out.drew.gr q4); have HG4 := Lib.hid (HGX3.out.drew.gr q4); have ka := And.intro HP4.out.all HG4.out.all; have HI4 := Lib.hid ((HIS3.out.gr ((Ch.refl _ _).drew)).gr q4); have HC4 := Lib.hid (HC3.out.drew.trans q4); clear q4)
      | (go_at_call 43; refine (rbody_any p A C HMM.out _ HI4.out.row).mono ?_; rintro e w5 ⟨v, rfl, q1, q2⟩; have HP5 := Lib.hid (HP4.out.gr q2); have HG5 := Lib.hid (HG4.out.gr q2); have kb := And.intro HP5.out.all HG5.out.all; obtain ⟨A5, C5, rfl⟩ := own_slice q1; have HK := Lib.hid (rinB_is (vol := vol) (g := g) (mir := mir) HMM.out HQ.out HMR.out HVL.out (ownsRow_rowV q1 (by have := body_lenR HMM.out; omega) (fun c _ => Cod.litZ_b (bodyR_b HI4.out.byt) c))); have HC5 := Lib.hid (HC4.out.trans q2); clear q1 q2)
      | (go_at_call 41; refine (bseal_any (rinB vol g mir p (.slice A5 (bodyR p).length C5)) A5 C5 _ rfl HK.out).mono ?_; rintro e w6 hq; have hfin := secRPost_seal HMM.out HQ.out HMR.out HC5.out hq; obtain ⟨A6, C6, rfl, q3, q4⟩ := hq; have kc := And.intro (HP5.out.gr q4).all (HG5.out.gr q4).all))
  have HFIN := Lib.hid hfin
  clear hfin
  go_wp2
  go_ret2
  exact HFIN.out
end Go.Proofs.YteleknojohnlbaaGreat
