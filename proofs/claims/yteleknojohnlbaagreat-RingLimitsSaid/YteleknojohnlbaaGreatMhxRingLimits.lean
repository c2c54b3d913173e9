/-
  What RingLimits needs besides.
-/
import Derived.Test.YteleknojohnlbaaGreatMh45
import Derived.Deep.CutBlock
import Derived.Test.YteleknojohnlbaaGreatMh36
namespace Go.Proofs.YteleknojohnlbaaGreat
open Go.RowKit
set_option linter.unusedVariables false
set_option linter.unusedSimpArgs false
theorem rcut_any (R : Nat) (x : Rg) (w : World) (h : RgIs w R x) : Calls Tryz.prog 36 #[.pointer (some ⟨R, 0, none⟩)] w fun e w' => e = .returned (.tuple #[]) ∧ RgIs w' R (cutR x) ∧ Ch (fun i => i = R) w w' := by
  have x9 : w.cell? ⟨R, 9, none⟩ = some (.int .i64 x.next) := blk_cell h
  have x8 : w.cell? ⟨R, 8, none⟩ = some (.int .i64 x.start) := blk_cell h
  have f8 : w.frozen? ⟨R, 8, none⟩ = false := blk_frozen h
  have HS : Hid (RgIs (w.setCell ⟨R, 8, none⟩ (.int .i64 x.next)) R (cutR x)) := Lib.hid (blk_set (i := 8) h _)
  have HC : Hid (Ch (fun i => i = R) w (w.setCell ⟨R, 8, none⟩ (.int .i64 x.next))) := Lib.hid ((Ch.refl (fun i => i = R) w).setCell (p := ⟨R, 8, none⟩) (Or.inl rfl) _)
  clear h
  go_enter Tryz.func36, Tryz.ntmps36
  go_wp2
  go_end0
  exact ⟨rfl, HS.out, HC.out⟩
end Go.Proofs.YteleknojohnlbaaGreat
namespace Go.Proofs.YteleknojohnlbaaGreat
open Go.RowKit
set_option linter.unusedVariables false
set_option maxRecDepth 100000
set_option linter.unusedSimpArgs false

/-! ### the document's Pieces -/
theorem r11pieces_any (A : Option Addr) (n C : Nat) (w : World) (hn : n ≤ 140737488351232) : Calls Tryz.prog 34 #[.slice A n C] w (Ans (.int .i64 (cntR n)) w) := by
  have e1 : wrap64 ((n : Int) + 199) = (n : Int) + 199 := IntWalk.wrap64_in _ ⟨by omega, by omega⟩
  have e3 : wrap64 (((n : Int) + 199).tdiv 200) = ((n : Int) + 199) / 200 := by
    rw [Int.tdiv_eq_ediv_of_nonneg (by omega)]
    exact IntWalk.wrap64_in _ ⟨by omega, by omega⟩
  have HE := Lib.hid e3
  clear hn e3
  by_cases h0 : n = 0
  · subst h0
    go_enter Tryz.func34, Tryz.ntmps34
    go_wp2
    go_ret
    exact ⟨ret_int (by unfold cntR; rw [if_pos (by omega)]), Ch.refl _ _⟩
  · have h1 : ¬ (n : Int) = 0 := by omega
    have hb : ((n : Int) == 0) = false := beq_eq_false_iff_ne.2 h1
    go_enter Tryz.func34, Tryz.ntmps34
    go_wp2
    go_ret
    rw [HE.out]
    exact ⟨ret_int (by unfold cntR; split <;> omega), Ch.refl _ _⟩
/-! ### noughts, again and again -/
def zeL (k : Nat) : List Nat := List.replicate k 0
theorem zeL_len (k : Nat) : (zeL k).length = k := List.length_replicate
theorem zeL_b (k : Nat) : ∀ y ∈ zeL k, y < 256 := fun y hy => by rw [List.eq_of_mem_replicate hy]; omega
structure LiS (n : Gn) (k j : Nat) (d : Dev) (x : Rg) : Prop where
  fine : Fine (secsG n) d
  log : ∃ C P, LogS (· = Ct.free) 7 n 0 0 d x C P ∧ P.length = j * cntN k
  lim : Lim d (2564 + 1664 * j) ∧ LimM d (2564 + 1664 * j)
theorem li_zero {n : Gn} (hg : n.Ok) (B k : Nat) : LiS n k 0 (bkD 7 (secsG n)) (boX B n 7 1 0 0) := by
  have hx := boX_ok (B := B) hg (vol := 7) (ep := 1) (st := 0) (ch := 0) ⟨by omega, by omega⟩ ⟨by omega, by omega⟩ ⟨by omega, by omega⟩ ⟨by omega, by omega⟩
  have l0 := bk_start hg (secs_le n) hx (vol := 7) rfl rfl (st := 0) rfl rfl
  have hl := bkD_lims 7 (secsG n)
  have hs := secs_max hg
  exact ⟨(bk_fine 7 (secsG n)).1, ⟨_, _, l0, by simp⟩, hl.1.mono (by omega), hl.2.mono (by omega)⟩
theorem LiS.next {n : Gn} {k j : Nat} {d : Dev} {x : Rg} (h : LiS n k j d x) : x.next = ((j * cntN k : Nat) : Int) := by
  obtain ⟨C, P, hl, hp⟩ := h.log
  rw [hl.next, hp, Nat.zero_add]
theorem LiS.le {n : Gn} {k j : Nat} {d : Dev} {x : Rg} (h : LiS n k j d x) : j * cntN k ≤ n.W := by
  obtain ⟨C, P, hl, hp⟩ := h.log
  rw [← hp]; exact hl.le
theorem LiS.ok {n : Gn} {k j : Nat} {d : Dev} {x : Rg} (h : LiS n k j d x) : RgOk x := by
  obtain ⟨C, P, hl, hp⟩ := h.log
  exact hl.ok
theorem li_long {n : Gn} {k j : Nat} {d : Dev} {x : Rg} (hk : 64 < cntN k) : appS x (zeL k) d = ⟨d, x, 2⟩ := by
  have e : apE0 x (zeL k).length = 2 := by
    rw [zeL_len]
    unfold apE0
    rw [if_pos (by have := cntN_eq k; omega)]
  unfold appS
  rw [e, if_neg (by decide)]
theorem li_e0 {n : Gn} {k j : Nat} {d : Dev} {x : Rg} (hg : n.Ok) (h : LiS n k j d x) (hk : cntN k ≤ 64) : apE0 x (zeL k).length = if n.W < (j + 1) * cntN k then 4 else 0 := by
  have hn := h.next
  have hle := h.le
  have hw := hg.w2
  obtain ⟨C, P, hl, hp⟩ := h.log
  have hs := hl.start
  have hwal : x.g.wal = (n.W : Int) := by rw [hl.gx]; rfl
  have hc := cntN_eq k
  rw [zeL_len]
  unfold apE0
  rw [if_neg (by omega), hwal, hn, hs]
  rw [Nat.succ_mul]
  generalize j * cntN k = jp at *
  by_cases q : n.W < jp + cntN k
  · rw [if_pos q, if_pos (Or.inl (by omega))]
  · rw [if_neg q, if_neg (by omega)]
theorem li_full {n : Gn} {k j : Nat} {d : Dev} {x : Rg} (hg : n.Ok) (h : LiS n k j d x) (hk : cntN k ≤ 64) (hf : n.W < (j + 1) * cntN k) : appS x (zeL k) d = ⟨d, x, 4⟩ := by
  have e := li_e0 hg h hk
  rw [if_pos hf] at e
  unfold appS
  rw [e, if_neg (by decide)]
theorem li_step {n : Gn} {k j : Nat} {d : Dev} {x : Rg} (hg : n.Ok) (h : LiS n k j d x) (hk : cntN k ≤ 64) (hf : (j + 1) * cntN k ≤ n.W) : (appS x (zeL k) d).e = 0 ∧ LiS n k (j + 1) (appS x (zeL k) d).d (appS x (zeL k) d).x := by
  have e := li_e0 hg h hk
  rw [if_neg (by omega)] at e
  have hlm := appS_lim (x := x) (B := zeL k) h.lim.1 h.lim.2
  obtain ⟨C, P, hl, hp⟩ := h.log
  obtain ⟨C', d', e1, f1, l1⟩ := hl.app hg (secs_le n) h.fine (zeL_b k) e
  rw [e1] at hlm ⊢
  refine ⟨rfl, f1, ⟨C', _, l1, ?_⟩, hlm.1.mono (by omega), hlm.2.mono (by omega)⟩
  rw [List.length_append, txP_len, hp, zeL_len, Nat.succ_mul]
/-- What is ahead is let go. -/
theorem li_cut {n : Gn} {k j : Nat} {d : Dev} {x : Rg} (hg : n.Ok) (h : LiS n k j d x) (hk : cntN k ≤ n.W) (hk2 : cntN k ≤ 64) : (appS (cutR x) (zeL k) d).e = 0 ∧ (appS (cutR x) (zeL k) d).x.next = (((j + 1) * cntN k : Nat) : Int) ∧ RgOk (cutR x) := by
  have hn := h.next
  have hle := h.le
  have hw := hg.w2
  obtain ⟨C, P, hl, hp⟩ := h.log
  have hok := hl.ok
  have hok' : RgOk (cutR x) := ⟨hok.may, hok.vol, hok.ep, hok.fr, hok.ch, hok.nx, ⟨by show 0 ≤ x.next; omega, by show x.next ≤ x.next; omega⟩⟩
  have l2 : LogS (fun _ => True) 7 n (j * cntN k) x.chain d (cutR x) C [] :=
    ⟨hl.dev, fun i q hq => by simp at hq, fun _ _ _ _ _ => trivial, trivial, ⟨rfl, Or.inl rfl⟩, hok', hl.vx, hl.gx, hn, by show x.next = _; rw [hn]; simp, Nat.zero_le _⟩
  have hc := cntN_eq k
  have e : apE0 (cutR x) (zeL k).length = 0 := by
    have hwal : (cutR x).g.wal = (n.W : Int) := by show x.g.wal = _; rw [hl.gx]; rfl
    rw [zeL_len]
    unfold apE0
    rw [if_neg (by omega), hwal, show (cutR x).next = x.next from rfl, show (cutR x).start = x.next from rfl, hn, if_neg (by omega)]
  obtain ⟨C', d', e1, f1, l1⟩ := l2.app hg (secs_le n) h.fine (zeL_b k) e
  rw [e1]
  refine ⟨rfl, ?_, hok'⟩
  show (ringTo (cntR (zeL k).length) (zeL k) (cutR x) (cntN (zeL k).length)).next = _
  rw [l1.next, List.length_append, txP_len, zeL_len, Nat.succ_mul]
  simp
/-- 17 or more do not go in. -/
theorem li_few {n : Gn} {k j : Nat} {d : Dev} {x : Rg} (h : LiS n k j d x) (hW : n.W ≤ 16) : j ≤ 16 := by
  have hle := h.le
  have hp := cntN_pos k
  have : j * 1 ≤ j * cntN k := Nat.mul_le_mul_left _ hp
  omega
#print axioms r11pieces_any
#print axioms li_step
#print axioms li_cut
end Go.Proofs.YteleknojohnlbaaGreat
namespace Go.Proofs.YteleknojohnlbaaGreat
open Go.RowKit
set_option linter.unusedVariables false
set_option maxRecDepth 100000
set_option linter.unusedSimpArgs false

theorem RgW.cut {w0 w : World} {X : Nat → Prop} {B R : Nat} {d : Dev} {x : Rg} (h : RgW w0 X B R d x w) : Calls Tryz.prog 36 #[.pointer (some ⟨R, 0, none⟩)] w fun e w' => e = .returned (.tuple #[]) ∧ RgW w0 X B R d (cutR x) w' ∧ Ch (fun i => w0.heap.size ≤ i ∧ ¬ X i) w w' := by
  obtain ⟨p, h2, h3, h4⟩ := h.dev
  refine (rcut_any R x w h.rg).mono ?_
  rintro e w' ⟨rfl, a1, a2⟩
  have hS : ∀ i, i = R → w0.heap.size ≤ i ∧ ¬ X i := fun i hi => by
    subst hi
    exact ⟨h.lo, fun q => h.ne _ q rfl⟩
  refine ⟨rfl, ⟨h.ch.new (a2.mono fun i _ hi => (hS i hi).1), ⟨p, h2, h3.ch a2 (fun i hi hs => by subst hs; exact h4 _ (Or.inr rfl) hi), h4⟩, a1, h.xd, h.lo, fun i hi => Nat.lt_of_lt_of_le (h.lt i hi) a2.size, h.ne⟩, a2.mono fun i _ hi => hS i hi⟩
theorem zek_row (w : World) (k : Nat) (hk : k ≤ 14000) : RowV (w.alloc (.cells (madeCells #[.int .u8 0] k) /-t-/5)) (.slice (some ⟨w.heap.size, 0, none⟩) k k) k (Cod.litZ (zeL k)) := by
  refine rowIs_rowV ((World.rowIs_made w (.int .u8 0) k /-t-/5).congr fun i hi => ?_) (by omega) (fun c hc => ?_)
  · have : Cod.litZ (zeL k) i = 0 := by unfold Cod.litZ zeL; rw [List.getD_eq_getElem?_getD, List.getElem?_replicate]; split <;> rfl
    rw [this]; rfl
  · have : Cod.litZ (zeL k) c = 0 := by unfold Cod.litZ zeL; rw [List.getD_eq_getElem?_getD, List.getElem?_replicate]; split <;> rfl
    rw [this]; omega
set_option maxHeartbeats 12800000 in
theorem ringLimits_of (g : Ge) (nn : Int) (w : World) : Calls Tryz.prog 8 #[.agg (geC g), .int .i64 nn] w (Told w) := by
  obtain ⟨w1, H, hR⟩ := geR w g
  have HR := Lib.hid hR
  have HAW := Lib.hid (rawake_any w1)
  clear hR
  go_enter Tryz.func8, Tryz.ntmps8
  go_wp2_with (first | ((with_reducible refine wpList_isOp (.box 23 (.tmp 0)) rfl ?_); refine wpList_boxing _ w1 rfl 23 (.tmp 0) rfl (geC g) H rfl (by exact HR.out.sz) (by exact HR.out.al) ?_) | fail)
  refine HAW.out.mono ?_
  rintro e w2 ⟨rfl, hc2⟩
  have HC2 := Lib.hid hc2
  obtain ⟨x0, x1, x2, x3⟩ := HR.out.x.gr HC2.out
  have HBK := Lib.hid (lawBlank_any 7 g w2 ⟨by omega, by omega⟩)
  clear hc2 HAW
  go_wp2_with fail
  refine HBK.out.mono ?_
  rintro e w4 hb
  cases hbk : blkOk 7 g
  · obtain ⟨rfl, hc4⟩ := hb.1 hbk
    have HCF := Lib.hid ((HR.out.ch.trans HC2.out).trans hc4)
    clear hb hbk hc4 x0 x1 x2 x3 HBK
    go_wp2
    go_ret
    exact ⟨rfl, HCF.out⟩
  have hmg : mayG g = true := by unfold blkOk at hbk; exact (Bool.and_eq_true_iff.1 hbk).1
  obtain ⟨n, hn, rfl⟩ := may_nat hmg
  obtain ⟨B, rfl, hO⟩ := hb.2 n hbk rfl
  have hW16 : (n.W : Int) ≤ 16 := by
    unfold blkOk at hbk
    have := (Bool.and_eq_true_iff.1 (Bool.and_eq_true_iff.1 hbk).2).1
    exact of_decide_eq_true this
  have HO := Lib.hid hO
  have HNK := Lib.hid hn
  have HW16 := Lib.hid hW16
  have HCF := Lib.hid ((HR.out.ch.trans HC2.out).trans hO.ch)
  clear hb hbk hmg hO hn HBK x0 x1 x2 x3 hW16
  by_cases h1 : nn < 0
  · go_wp2
    go_ret
    exact ⟨rfl, HCF.out⟩
  by_cases h2 : 14000 < nn
  · go_wp2
    go_ret
    exact ⟨rfl, HCF.out⟩
  obtain ⟨k, rfl⟩ : ∃ k : Nat, nn = (k : Int) := ⟨nn.toNat, by omega⟩
  obtain ⟨x0, x1, x2, x3⟩ := HR.out.x.gr (HC2.out.trans HO.out.ch)
  have hokN : okN 7 n.ge 1 0 0 0 = true := by
    unfold okN
    rw [ok_may HNK.out, show wordsTo (wordsN 7 1 0 0 0) 5 = true from rfl]
    show (true && (true && inB ((0 : Int) - 0) 0 (n.W : Int))) = true
    rw [Bool.true_and, Bool.true_and]
    exact inB_true.2 ⟨by omega, by omega⟩
  have HNW := Lib.hid (rgNew_any B 7 n.ge 1 0 0 0 w4)
  have HK := Lib.hid (show k ≤ 14000 by omega)
  go_wp2_with fail
  refine HNW.out.mono ?_
  rintro e w5 hnw
  obtain ⟨R, rfl, hR1, hR2, hc5⟩ : ∃ R, e = .returned (.tuple #[.pointer (some ⟨R, 0, none⟩), .int .i64 0]) ∧ w4.heap.size ≤ R ∧ RgIs w5 R (boX B n 7 1 0 0) ∧ Ch (fun _ => False) w4 w5 := by unfold NewPost at hnw; rw [hokN] at hnw; exact hnw
  have h5 := RgW.start HO.out hc5 hR2 hR1 rfl
  have hmk : (Instr.makeSlice /-t-/24 (.int .i64 (k : Int)) (.int .i64 (k : Int))).run Tryz.prog w5 = .ok (.slice (some ⟨w5.heap.size, 0, none⟩) k k) (w5.alloc (.cells (madeCells #[.int .u8 0] k) /-t-/5)) := by
    obtain ⟨i0, hi, hz0, hz1, hz2⟩ := info_parts Tryz.info5
    have := run_make (P := Tryz.prog) w5 /-t-/24 /-t-/5 i0 (.int .u8 0) Tryz.underlying24 hi hz0 .i64 .i64 k k (by omega) (by omega) (by rw [hz2]; have := HK.out; omega) (by have := HK.out; omega)
    rw [hz1, Int.toNat_natCast, Nat.mul_one] at this
    exact this
  obtain ⟨w6, hw6⟩ : ∃ w6, w6 = w5.alloc (.cells (madeCells #[.int .u8 0] k) /-t-/5) := ⟨_, rfl⟩
  obtain ⟨b6, hb6⟩ : ∃ b6, b6 = w5.heap.size := ⟨_, rfl⟩
  have hc6 : Ch (fun _ => False) w5 w6 := by rw [hw6]; exact (Ch.refl _ w5).alloc _ _
  have hz6 : w6.heap.size = w5.heap.size + 1 := by rw [hw6]; exact Array.size_push _
  have h6 : RgW w2 (fun i => i = b6) B R (bkD 7 (secsG n)) (boX B n 7 1 0 0) w6 := h5.own hc6 (fun _ f => f.elim) (fun i e => Or.inr (by rw [e, hb6]; omega))
  have r6 : RowV w6 (.slice (some ⟨b6, 0, none⟩) k k) k (Cod.litZ (zeL k)) := by rw [hw6, hb6]; exact zek_row w5 k HK.out
  have HPI := Lib.hid (r11pieces_any (some ⟨b6, 0, none⟩) k k w6 (by have := HK.out; omega))
  have H6 := Lib.hid h6
  have HR6 := Lib.hid r6
  rw [← hw6, ← hb6] at hmk
  clear hnw hR1 hR2 hc5 h5 hokN HNW x0 x1 x2 x3 h1 h2 hw6 hb6 hc6 hz6 h6 r6
  go_wp2_with fail
  refine HPI.out.mono ?_
  rintro e w7 ⟨rfl, hc7⟩
  obtain ⟨p, hp⟩ : ∃ p : Nat, p = cntN k := ⟨_, rfl⟩
  have hpe : cntR k = (p : Int) := by rw [hp]; exact (cntN_eq k).symm
  rw [hpe]
  have HP := Lib.hid hp
  have h7 := H6.out.gr hc7
  have HR7 := Lib.hid (HR6.out.gr hc7)
  have HOFF : Hid (Off (fun i => w2.heap.size ≤ i ∧ ¬ i = b6) (.slice (some ⟨b6, 0, none⟩) k k)) := Lib.hid (fun b o n C e q => q.2 (by injection e with e; injection e with e; injection e with e; exact e.symm))
  have L0 := Lib.hid (li_zero HNK.out B k)
  have HA7 := Lib.hid (h7.append (Bt := zeL k) (t := 2564) (zeL_len k).symm L0.out.ok (HR7.out) (zeL_b k) HOFF.out (L0.out.lim.1.mono (by omega)) (L0.out.lim.2.mono (by omega)) (by omega))
  have H7 := Lib.hid h7
  clear hp hpe hc7 h7 hmk HPI H6 HR6
  go_wp2_with fail
  refine HA7.out.mono ?_
  rintro e w8 ⟨rfl, h8, hc8⟩
  obtain ⟨d0, hd0⟩ : ∃ d0, d0 = bkD 7 (secsG n) := ⟨_, rfl⟩
  obtain ⟨r0, hr0⟩ : ∃ r0, r0 = boX B n 7 1 0 0 := ⟨_, rfl⟩
  have hch0 : r0.chain = 0 := by rw [hr0]; rfl
  rw [← hd0, ← hr0] at h8 L0 ⊢
  have HCH0 := Lib.hid hch0
  have hnx0 : r0.next = 0 := by rw [L0.out.next]; simp
  have HCFA := Lib.hid ((HR.out.ch.trans HC2.out).trans h8.ch)
  have HR8 := Lib.hid (HR7.out.off hc8 HOFF.out)
  clear hd0 hr0 hch0 hc8 HA7 H7
  by_cases hlong : 64 < p
  · have e0 := li_long (n := n) (j := 0) (d := d0) (x := r0) (k := k) (by rw [← HP.out]; exact hlong)
    rw [e0] at h8 ⊢
    have c9 : w8.cell? ⟨R, 9, none⟩ = some (.int .i64 r0.next) := blk_cell h8.rg
    rw [hnx0] at c9
    have hl : (64 : Int) < (p : Int) := by omega
    clear e0 h8 hnx0
    go_wp2
    go_ret
    exact ⟨rfl, HCFA.out⟩
  have hp64 : cntN k ≤ 64 := by rw [← HP.out]; omega
  have HP64 := Lib.hid hp64
  have hl : ¬ (64 : Int) < (p : Int) := by omega
  by_cases hW : n.W < p
  · have e0 := li_full HNK.out L0.out hp64 (by rw [← HP.out]; omega)
    rw [e0] at h8 ⊢
    have c9 : w8.cell? ⟨R, 9, none⟩ = some (.int .i64 r0.next) := blk_cell h8.rg
    rw [hnx0] at c9
    have c10 : w8.cell? ⟨R, 10, none⟩ = some (.int .i64 r0.chain) := blk_cell h8.rg
    rw [HCH0.out] at c10
    obtain ⟨x0, x1, x2, x3⟩ := HR.out.x.gr (HC2.out.trans h8.ch)
    have hw : n.ge.wal < (p : Int) := by show (n.W : Int) < (p : Int); omega
    clear e0 h8 hnx0 hp64
    go_wp2
    go_ret
    exact ⟨rfl, HCFA.out⟩
  have hw : ¬ n.ge.wal < (p : Int) := by show ¬ (n.W : Int) < (p : Int); omega
  obtain ⟨e0, l1⟩ := li_step HNK.out L0.out hp64 (by rw [← HP.out]; omega)
  rw [e0]
  obtain ⟨d1, hd1⟩ : ∃ d1, d1 = (appS r0 (zeL k) d0).d := ⟨_, rfl⟩
  obtain ⟨r1, hr1⟩ : ∃ r1, r1 = (appS r0 (zeL k) d0).x := ⟨_, rfl⟩
  rw [← hd1, ← hr1] at h8 l1
  have HNX := Lib.hid (rnext_any R r1 w8 h8.rg)
  have hnx1 : r1.next = (p : Int) := by rw [l1.next, HP.out]; simp
  rw [hnx1] at HNX
  have H8 := Lib.hid h8
  have L1 := Lib.hid l1
  have HWP := Lib.hid (show p ≤ n.W by omega)
  obtain ⟨x0, x1, x2, x3⟩ := HR.out.x.gr (HC2.out.trans h8.ch)
  clear hd1 hr1 h8 l1 e0 hnx1 hp64 hnx0 hW
  go_wp2_with fail
  refine HNX.out.mono ?_
  rintro e w9 ⟨rfl, hc9⟩
  have H9 : Hid (RgW w2 (fun i => i = b6) B R d1 r1 w9) := Lib.hid (H8.out.gr hc9)
  have HW2 := Lib.hid HNK.out.w2
  have HR9 : Hid (RowV w9 (.slice (some ⟨b6, 0, none⟩) k k) k (Cod.litZ (zeL k))) := Lib.hid (HR8.out.gr hc9)
  clear hc9 HNX H8 x0 x1 x2 x3 hl hw hlong
  go_upto_block 0 with fail
  go_cut [12, 13, 14] (fun nx h i wx => ∃ (j q : Nat) (d : Dev) (x : Rg), q = j * p ∧ n.W < q + p ∧ nx = .int .i64 (q : Int) ∧ h = .int .i64 4 ∧ Hid (LiS n k j d x) ∧ Hid (RgW w2 (fun i => i = b6) B R d x wx) ∧ Hid (RowV wx (.slice (some ⟨b6, 0, none⟩) k k) k (Cod.litZ (zeL k))))
  case first =>
    go_wp2_with fail
    go_loopw [12, 13, 14, 83, 84, 85, 86, 87, 88, 89, 90, 91, 92, 93, 94, 95] (fun nx h i _ _ _ _ _ _ _ _ _ _ _ _ _ wr => ∃ (j iN : Nat) (d : Dev) (x : Rg), i = .int .i64 (iN : Int) ∧ iN ≤ 20 ∧ Hid (LiS n k j d x) ∧ Hid (RgW w2 (fun i => i = b6) B R d x wr) ∧ Hid (RowV wr (.slice (some ⟨b6, 0, none⟩) k k) k (Cod.litZ (zeL k))) ∧ ((h = .int .i64 0 ∧ iN + 1 = j ∧ ∃ z : Int, nx = .int .i64 z) ∨ (h = .int .i64 4 ∧ ∃ q : Nat, q = j * p ∧ n.W < q + p ∧ nx = .int .i64 (q : Int)))) (fun _ _ i _ _ _ _ _ _ _ _ _ _ _ _ _ _ => 25 - (intOf i).toNat)
    case atStart => exact ⟨1, 0, d1, r1, rfl, by omega, L1, H9, HR9, Or.inl ⟨rfl, rfl, _, rfl⟩⟩
    case round =>
      obtain ⟨j, iN, d, x, rfl, hi20, HLI, HRW, HRO, hcase⟩ := hrel
      clear L1 H9 HR9
      rcases hcase with ⟨rfl, hij, z, rfl⟩ | ⟨rfl, q, hq, hfull, rfl⟩
      · have hj16 := li_few HLI.out (by have := HW16.out; omega)
        have i1 : (iN : Int) < 20 := by omega
        have i0 : (0 : Int) ≤ (iN : Int) := Int.natCast_nonneg _
        have HNX := Lib.hid (rnext_any R x wr HRW.out.rg)
        have HIJ := Lib.hid (And.intro hij hj16)
        obtain ⟨q, hq⟩ : ∃ q : Nat, q = j * p := ⟨_, rfl⟩
        have hnx : x.next = (q : Int) := by rw [HLI.out.next, hq, HP.out]
        rw [hnx] at HNX
        have HQ := Lib.hid hq
        clear hij hj16 hq hnx
        go_wp2_with fail
        refine HNX.out.mono ?_
        rintro e w10 ⟨rfl, hc10⟩
        have h10 := HRW.out.gr hc10
        have hrow := HRO.out.gr hc10
        have HRO10 := Lib.hid hrow
        have HAP := Lib.hid (h10.append (Bt := zeL k) (t := 2564 + 1664 * j) (zeL_len k).symm HLI.out.ok hrow (zeL_b k) HOFF.out HLI.out.lim.1 HLI.out.lim.2 (by have := HIJ.out; omega))
        clear hc10 h10 hrow HNX
        go_wp2_with fail
        refine HAP.out.mono ?_
        rintro e w11 ⟨rfl, h11, hc11⟩
        have HRO11 := Lib.hid (HRO10.out.off hc11 HOFF.out)
        clear hc11
        have hsm := Nat.succ_mul j (cntN k)
        by_cases hf : n.W < q + p
        · have e0 := li_full HNK.out HLI.out HP64.out (by rw [hsm, ← HP.out, ← HQ.out]; exact hf)
          rw [e0] at h11 ⊢
          have H11 := Lib.hid h11
          have HF := Lib.hid hf
          clear hsm e0 h11 hf
          go_wp2
          go_roundw
          case rel => exact ⟨j, iN + 1, d, x, by go_num, by have := HIJ.out; omega, HLI, H11, HRO11, Or.inr ⟨rfl, q, HQ.out, HF.out, rfl⟩⟩
          case measure => simp [intOf]; omega
        · obtain ⟨e0, l1⟩ := li_step HNK.out HLI.out HP64.out (by rw [hsm, ← HP.out, ← HQ.out]; omega)
          rw [e0]
          have H11 := Lib.hid h11
          have L11 := Lib.hid l1
          clear hsm e0 h11 hf l1
          go_wp2
          go_roundw
          case rel => exact ⟨j + 1, iN + 1, _, _, by go_num, by have := HIJ.out; omega, L11, H11, HRO11, Or.inl ⟨rfl, by have := HIJ.out; omega, _, rfl⟩⟩
          case measure => simp [intOf]; omega
      · have HQ := Lib.hid (And.intro hq hfull)
        have i0 : (0 : Int) ≤ (iN : Int) := Int.natCast_nonneg _
        clear hq hfull
        by_cases hi : (iN : Int) < 20
        · go_wp2_with fail
          go_meet
          exact ⟨j, q, d, x, HQ.out.1, HQ.out.2, rfl, rfl, HLI, HRW, HRO⟩
        · go_wp2_with fail
          go_meet
          exact ⟨j, q, d, x, HQ.out.1, HQ.out.2, rfl, rfl, HLI, HRW, HRO⟩
  case rest =>
    obtain ⟨j, q, d, x, hq, hfull, rfl, rfl, HLI, HRW, HRO⟩ := hcut
    clear L1 H9
    have hqn : x.next = (q : Int) := by rw [HLI.out.next, hq, HP.out]
    have hle := HLI.out.le
    have hq16 : (q : Int) ≤ 16 := by rw [← HP.out, ← hq] at hle; have := HW16.out; omega
    have hp16 : (p : Int) ≤ 16 := by have := HWP.out; have := HW16.out; omega
    have q0 : (0 : Int) ≤ (q : Int) := Int.natCast_nonneg _
    have p0 : (0 : Int) ≤ (p : Int) := Int.natCast_nonneg _
    have HNX := Lib.hid (rnext_any R x wc HRW.out.rg)
    rw [hqn] at HNX
    have HQ := Lib.hid hq
    have HFU := Lib.hid (And.intro hfull hq16)
    have HP16 := Lib.hid hp16
    clear hq hfull hle hqn hq16 hp16 q0 p0
    go_wp2_with fail
    refine HNX.out.mono ?_
    rintro e wd ⟨rfl, hcd⟩
    have HRW' := Lib.hid (HRW.out.gr hcd)
    have HRO' := Lib.hid (HRO.out.gr hcd)
    have x0 : wd.cell? ⟨H, 0, none⟩ = some (.int .i64 n.ge.wal) := (HR.out.x.gr (HC2.out.trans HRW'.out.ch)).x0
    have hq16 : (q : Int) ≤ 16 := HFU.out.2
    have hp16 : (p : Int) ≤ 16 := HP16.out
    have q0 : (0 : Int) ≤ (q : Int) := Int.natCast_nonneg _
    have p0 : (0 : Int) ≤ (p : Int) := Int.natCast_nonneg _
    have hfull := HFU.out.1
    have hw : n.ge.wal < (q : Int) + (p : Int) := by show (n.W : Int) < _; omega
    have HCT := Lib.hid HRW'.out.cut
    clear hfull hcd HNX
    go_wp2_with fail
    refine HCT.out.mono ?_
    rintro e w12 ⟨rfl, h12, hc12⟩
    obtain ⟨e0, hn1, hok⟩ := li_cut HNK.out HLI.out (by rw [← HP.out]; exact HWP.out) HP64.out
    have hrow := HRO'.out.off hc12 HOFF.out
    have HAP := Lib.hid (h12.append (Bt := zeL k) (t := 2564 + 1664 * j) (zeL_len k).symm hok hrow (zeL_b k) HOFF.out HLI.out.lim.1 HLI.out.lim.2 (by have := li_few HLI.out (by have := HW16.out; omega); omega))
    rw [e0] at HAP
    have hn2 : (appS (cutR x) (zeL k) d).x.next = (q : Int) + (p : Int) := by rw [hn1, Nat.succ_mul, ← HP.out, ← HQ.out]; omega
    have HN2 := Lib.hid hn2
    clear e0 hn1 hok hrow h12 hc12 HCT x0 hn2
    go_wp2_with fail
    refine HAP.out.mono ?_
    rintro e w13 ⟨rfl, h13, _⟩
    have c9 : w13.cell? ⟨R, 9, none⟩ = some (.int .i64 (appS (cutR x) (zeL k) d).x.next) := blk_cell h13.rg
    rw [HN2.out] at c9
    have HCE := Lib.hid ((HR.out.ch.trans HC2.out).trans h13.ch)
    clear h13 HAP
    go_wp2
    go_ret
    exact ⟨rfl, HCE.out⟩
#print axioms ringLimits_of
end Go.Proofs.YteleknojohnlbaaGreat
