/-
  ring: what fits, how pieces are compared, the sum of a piece's sector, walked.
-/
import Derived.Test.YteleknojohnlbaaGreatMg31
import Derived.Test.YteleknojohnlbaaGreatMg15
namespace Go.Proofs.YteleknojohnlbaaGreat
open Go.RowKit
set_option linter.unusedVariables false
set_option maxRecDepth 100000

/-! ### fits -/
def goesOn (a p : Pn) : Bool := if a.ofn = 0 then true else if p.ep = a.ep then decide (p.fr = a.fr) else (decide (a.ep < p.ep) && decide (p.fr = p.seq))
def fitsP (a : Pn) (s : Int) (p : Pn) : Bool := if p.ch = s then goesOn a p else false
set_option maxHeartbeats 3200000 in
theorem rfits_any (a : Lk) (p : Pn) (V : Value) (w : World) : Calls Tryz.prog 92 #[.agg (lkC a), .agg (pcC p V)] w (Ans (.bool (fitsP a.p a.sum p)) w) := by
  obtain ⟨w0, D, hL⟩ := boxR w (lkC a) 100
  obtain ⟨w1, H, hR⟩ := boxR w0 (pcC p V) 26
  obtain ⟨y0, y1, y2, y3, y4, y5, y6⟩ := pc_x hR.cx
  have a1 : w1.cell? ⟨D, 1, none⟩ = some (.int .i64 a.p.ep) := hR.ch.cell (p := ⟨D, 1, none⟩) (blk_cell hL.cx) (fun f => f)
  have a2 : w1.cell? ⟨D, 2, none⟩ = some (.int .i64 a.p.fr) := hR.ch.cell (p := ⟨D, 2, none⟩) (blk_cell hL.cx) (fun f => f)
  have a5 : w1.cell? ⟨D, 5, none⟩ = some (.int .i64 a.p.ofn) := hR.ch.cell (p := ⟨D, 5, none⟩) (blk_cell hL.cx) (fun f => f)
  have a7 : w1.cell? ⟨D, 7, none⟩ = some (.int .i64 a.sum) := hR.ch.cell (p := ⟨D, 7, none⟩) (blk_cell hL.cx) (fun f => f)
  have HC := Lib.hid (hL.ch.trans hR.ch)
  have HL := Lib.hid hL
  have HR := Lib.hid hR
  clear hL hR
  by_cases q1 : p.ch = a.sum
  · have t1 : (p.ch != a.sum) = false := by simpa using q1
    by_cases q2 : a.p.ofn = 0
    · have t2 : (a.p.ofn == 0) = true := by simpa using q2
      have HE := Lib.hid (show fitsP a.p a.sum p = true by unfold fitsP goesOn; rw [if_pos q1, if_pos q2])
      clear q1 q2
      go_enter Tryz.func92, Tryz.ntmps92
      go_wp2_with (first | ((with_reducible refine wpList_isOp (.box 100 (.tmp 0)) rfl ?_); refine wpList_boxing _ w0 rfl 100 (.tmp 0) rfl (lkC a) D rfl (by exact HL.out.sz) (by exact HL.out.al) ?_) | ((with_reducible refine wpList_isOp (.box 26 (.tmp 1)) rfl ?_); refine wpList_boxing _ w1 rfl 26 (.tmp 1) rfl (pcC p V) H rfl (by exact HR.out.sz) (by exact HR.out.al) ?_))
      go_ret
      exact ⟨ret_bool HE.out.symm, HC.out⟩
    · have t2 : (a.p.ofn == 0) = false := by simpa using q2
      by_cases q3 : p.ep = a.p.ep
      · have t3 : (p.ep == a.p.ep) = true := by simpa using q3
        have HE := Lib.hid (show fitsP a.p a.sum p = (p.fr == a.p.fr) by unfold fitsP goesOn; rw [if_pos q1, if_neg q2, if_pos q3]; rfl)
        clear q1 q2 q3
        go_enter Tryz.func92, Tryz.ntmps92
        go_wp2_with (first | ((with_reducible refine wpList_isOp (.box 100 (.tmp 0)) rfl ?_); refine wpList_boxing _ w0 rfl 100 (.tmp 0) rfl (lkC a) D rfl (by exact HL.out.sz) (by exact HL.out.al) ?_) | ((with_reducible refine wpList_isOp (.box 26 (.tmp 1)) rfl ?_); refine wpList_boxing _ w1 rfl 26 (.tmp 1) rfl (pcC p V) H rfl (by exact HR.out.sz) (by exact HR.out.al) ?_))
        go_ret
        exact ⟨ret_bool HE.out.symm, HC.out⟩
      · have t3 : (p.ep == a.p.ep) = false := by simpa using q3
        by_cases q4 : a.p.ep < p.ep
        · have t4 : decide (a.p.ep < p.ep) = true := decide_eq_true q4
          have HE := Lib.hid (show fitsP a.p a.sum p = (p.fr == p.seq) by unfold fitsP goesOn; rw [if_pos q1, if_neg q2, if_neg q3, t4]; rfl)
          clear q1 q2 q3 q4
          go_enter Tryz.func92, Tryz.ntmps92
          go_wp2_with (first | ((with_reducible refine wpList_isOp (.box 100 (.tmp 0)) rfl ?_); refine wpList_boxing _ w0 rfl 100 (.tmp 0) rfl (lkC a) D rfl (by exact HL.out.sz) (by exact HL.out.al) ?_) | ((with_reducible refine wpList_isOp (.box 26 (.tmp 1)) rfl ?_); refine wpList_boxing _ w1 rfl 26 (.tmp 1) rfl (pcC p V) H rfl (by exact HR.out.sz) (by exact HR.out.al) ?_))
          go_ret
          exact ⟨ret_bool HE.out.symm, HC.out⟩
        · have t4 : decide (a.p.ep < p.ep) = false := decide_eq_false q4
          have HE := Lib.hid (show fitsP a.p a.sum p = false by unfold fitsP goesOn; rw [if_pos q1, if_neg q2, if_neg q3, t4]; rfl)
          clear q1 q2 q3 q4
          go_enter Tryz.func92, Tryz.ntmps92
          go_wp2_with (first | ((with_reducible refine wpList_isOp (.box 100 (.tmp 0)) rfl ?_); refine wpList_boxing _ w0 rfl 100 (.tmp 0) rfl (lkC a) D rfl (by exact HL.out.sz) (by exact HL.out.al) ?_) | ((with_reducible refine wpList_isOp (.box 26 (.tmp 1)) rfl ?_); refine wpList_boxing _ w1 rfl 26 (.tmp 1) rfl (pcC p V) H rfl (by exact HR.out.sz) (by exact HR.out.al) ?_))
          go_ret
          exact ⟨ret_bool HE.out.symm, HC.out⟩
  · have t1 : (p.ch != a.sum) = true := by simpa using q1
    have HE := Lib.hid (show fitsP a.p a.sum p = false by unfold fitsP; rw [if_neg q1])
    clear q1
    go_enter Tryz.func92, Tryz.ntmps92
    go_wp2_with (first | ((with_reducible refine wpList_isOp (.box 100 (.tmp 0)) rfl ?_); refine wpList_boxing _ w0 rfl 100 (.tmp 0) rfl (lkC a) D rfl (by exact HL.out.sz) (by exact HL.out.al) ?_) | ((with_reducible refine wpList_isOp (.box 26 (.tmp 1)) rfl ?_); refine wpList_boxing _ w1 rfl 26 (.tmp 1) rfl (pcC p V) H rfl (by exact HR.out.sz) (by exact HR.out.al) ?_))
    go_ret
    exact ⟨ret_bool HE.out.symm, HC.out⟩
#print axioms rfits_any

/-! ### the first that fits -/
def pv0 : Pv := ⟨pn0, .slice none 0 0⟩
def idxP (a : Lk) (L : List Pv) : Int := match L.findIdx? (fun x => fitsP a.p a.sum x.p) with | some i => (i : Int) | none => -1
set_option maxHeartbeats 3200000 in
theorem rindex_any (a : Lk) (A : Option Addr) (C : Nat) (L : List Pv) (w : World) (h : RwV kdP elP w A C L) : Calls Tryz.prog 91 #[.slice A L.length C, .func (.func 92) #[.agg (lkC a)] #[]] w (Ans (.int .i64 (idxP a L)) w) := by
  have HV := Lib.hid h
  have hle := h.le
  have hnil : A = none → L.length = 0 := fun e => by
    rcases Nat.eq_zero_or_pos L.length with q | q
    · exact q
    · obtain ⟨b, o, e2, _⟩ := h.at' q
      rw [e] at e2; cases e2
  have hcap := h.cap
  clear h
  obtain ⟨n, hn⟩ : ∃ n, n = L.length := ⟨_, rfl⟩
  have HNL := Lib.hid hn
  rw [← hn] at hle hcap hnil ⊢
  have HNI := Lib.hid hnil
  clear hn hnil
  go_enter Tryz.func91, Tryz.ntmps91
  go_wp2
  go_loopw [5, 8, 9, 10, 11, 12, 13, 14, 15, 16] (fun _ i _ _ _ _ _ _ _ _ wr => ∃ k : Nat, k ≤ n ∧ i = .int .i64 k ∧ Hid (Ch (fun _ => False) w wr) ∧ Hid (∀ c x, c < k → L[c]? = some x → fitsP a.p a.sum x.p = false)) (fun _ i _ _ _ _ _ _ _ _ _ => n - (intOf i).toNat)
  case atStart => exact ⟨0, Nat.zero_le _, rfl, Lib.hid (Ch.refl _ w), Lib.hid fun c x hc _ => absurd hc (Nat.not_lt_zero c)⟩
  case round =>
    obtain ⟨k, hk, rfl, HC, HB⟩ := hrel
    by_cases hlt : k < n
    · have i1 : (0 : Int) ≤ (k : Int) := Int.natCast_nonneg _
      have i2 : (k : Int) < (n : Int) := by omega
      obtain ⟨b, o, rfl, hcells⟩ := (HV.out.gr HC.out).at' (by rw [← HNL.out]; omega)
      obtain ⟨x, hx⟩ : ∃ x, L[k]? = some x := ⟨L[k]'(by rw [← HNL.out]; exact hlt), List.getElem?_eq_getElem _⟩
      have hrg : wr.rangeAt b (o + k * 7) (pcC x.p x.V).toList := fun j u hu => hcells k x hx j u hu
      have HLD := Lib.hid (show (loadVar 26 ⟨b, o + k * 7, none⟩).run Tryz.prog wr = .ok (.agg (pcC x.p x.V)) wr from run_loadVar_mid wr b (o + k * 7) _ (pcC x.p x.V).toList _ hrg Tryz.underlying26 rfl (show _ = some 7 by kernel_rfl))
      have HX := Lib.hid hx
      have HLT := Lib.hid hlt
      clear hcells hrg hx hlt
      cases hf : fitsP a.p a.sum x.p
      · have HF := Lib.hid hf
        clear hf
        go_wp2_with (first
          | ((with_reducible refine wpList_isOp (.load 26 (.tmp 14)) rfl ?_); refine wpList_loading _ rfl 26 (.tmp 14) rfl (.agg (pcC x.p x.V)) ⟨b, o + k * 7, none⟩ rfl (by exact HLD.out) ?_)
          | (go_at_call 92; refine (rfits_any a x.p x.V _).mono ?_; rintro e w2 ⟨rfl, hc2⟩; rw [HF.out]))
        go_roundw
        case rel => exact ⟨k + 1, HLT.out, by go_num, Lib.hid (HC.out.trans hc2), Lib.hid fun c y hc hy => by
          by_cases q : c < k
          · exact HB.out c y q hy
          · obtain rfl : c = k := by omega
            rw [HX.out] at hy
            injection hy with hy
            rw [← hy]
            exact HF.out⟩
        case measure => have := HLT.out; simp [intOf]; omega
      · have HF := Lib.hid hf
        have HE := Lib.hid (show idxP a L = (k : Int) by
          have : L.findIdx? (fun x => fitsP a.p a.sum x.p) = some k := by
            rw [List.findIdx?_eq_some_iff_getElem]
            refine ⟨by rw [← HNL.out]; exact HLT.out, ?_, fun j hj => ?_⟩
            · have := HX.out
              rw [List.getElem?_eq_some_iff] at this
              obtain ⟨h1, h2⟩ := this
              rw [h2]; exact HF.out
            · have hjl : j < L.length := by have := HLT.out; rw [← HNL.out]; omega
              have := HB.out j _ hj (List.getElem?_eq_getElem hjl)
              simp [this]
          unfold idxP
          rw [this])
        clear hf
        go_wp2_with (first
          | ((with_reducible refine wpList_isOp (.load 26 (.tmp 14)) rfl ?_); refine wpList_loading _ rfl 26 (.tmp 14) rfl (.agg (pcC x.p x.V)) ⟨b, o + k * 7, none⟩ rfl (by exact HLD.out) ?_)
          | (go_at_call 92; refine (rfits_any a x.p x.V _).mono ?_; rintro e w2 ⟨rfl, hc2⟩; rw [HF.out]))
        go_ret
        exact ⟨ret_int HE.out.symm, HC.out.trans hc2⟩
    · obtain rfl : k = n := by omega
      have HE := Lib.hid (show idxP a L = -1 by
        have : L.findIdx? (fun x => fitsP a.p a.sum x.p) = none := by
          rw [List.findIdx?_eq_none_iff]
          intro x hx
          obtain ⟨i, hi, rfl⟩ := List.getElem_of_mem hx
          exact HB.out i _ (by rw [HNL.out]; exact hi) (List.getElem?_eq_getElem hi)
        unfold idxP
        rw [this])
      clear hlt hk
      go_wp2
      go_ret
      exact ⟨ret_int HE.out.symm, HC.out⟩
#print axioms rindex_any

/-! ### the sum of a piece's sector -/
def sumR (vol : Int) (g : Ge) (p : Pn) : Int := (Crc.sumZ 256 (sectR vol g 0 p) : Int)
set_option maxHeartbeats 1600000 in
theorem rgSum_any (vol : Int) (g : Ge) (p : Pn) (V : Value) (w : World) (hv : N64 vol) (hr : rokB vol g 0 p = true) (h : PcIs w p V) : Calls Tryz.prog 94 #[.int .i64 vol, .agg (geC g), .agg (pcC p V)] w (Ans (.int .i64 (sumR vol g p)) w) := by
  obtain ⟨w0, HG, hG⟩ := geR w g
  obtain ⟨w1, H, hR⟩ := boxR w0 (pcC p V) 26
  have HLp := Lib.hid (load_pc hR.cx)
  obtain ⟨x0, x1, x2, x3⟩ := hG.x.gr hR.ch
  have HC := Lib.hid (hG.ch.trans hR.ch)
  have HS := Lib.hid (rsector_any vol g 0 p V w1 hv ((h.gr hG.ch).gr hR.ch))
  have HB := Lib.hid h.byt
  have HN := Lib.hid (show secRN vol g 0 p = 256 by unfold secRN; rw [hr]; rfl)
  have HG' := Lib.hid hG
  have HR := Lib.hid hR
  clear hG hR h hr hv
  go_enter Tryz.func94, Tryz.ntmps94
  go_wp2_with (first | ((with_reducible refine wpList_isOp (.box 23 (.tmp 1)) rfl ?_); refine wpList_boxing _ w0 rfl 23 (.tmp 1) rfl (geC g) HG rfl (by exact HG'.out.sz) (by exact HG'.out.al) ?_) | ((with_reducible refine wpList_isOp (.box 26 (.tmp 2)) rfl ?_); refine wpList_boxing _ w1 rfl 26 (.tmp 2) rfl (pcC p V) H rfl (by exact HR.out.sz) (by exact HR.out.al) ?_) | ((with_reducible refine wpList_isOp (.load 26 (.tmp 5)) rfl ?_); refine wpList_loading _ rfl 26 (.tmp 5) rfl (.agg (pcC p V)) ⟨H, 0, none⟩ rfl (by exact HLp.out) ?_))
  refine HS.out.mono ?_
  rintro e w2 ⟨A, C, rfl, ho, hc⟩
  rw [HN.out] at ho ⊢
  have hrow := ownsRow_rowV ho (by omega) (sectR_b HB.out 256)
  have HSU := Lib.hid (sum_any A 256 C (sectR vol g 0 p) w2 hrow)
  have HC2 := Lib.hid (HC.out.trans hc)
  have HE := Lib.hid (show sumR vol g p = (Crc.sumZ 256 (sectR vol g 0 p) : Int) from rfl)
  clear ho hc hrow
  go_wp2_with (go_at_call 116; refine HSU.out.mono ?_; rintro e w3 ⟨rfl, hc3⟩)
  go_ret
  exact ⟨ret_int HE.out.symm, HC2.out.trans hc3⟩
#print axioms rgSum_any
end Go.Proofs.YteleknojohnlbaaGreat
