/-
  ring.Told, walked. ring: what fits, how pieces are compared, the sum of a piece's sector, walked.
-/
import Derived.Test.YteleknojohnlbaaGreatMk23
import Derived.Test.YteleknojohnlbaaGreatMk11
namespace Go.Proofs.YteleknojohnlbaaGreat
open Go.RowKit
set_option linter.unusedVariables false
set_option maxRecDepth 100000
def TellPostR (n : Nat) (z : Nat → Nat) (vol : Int) (g : Ge) (mir slot : Int) (w : World) (e : Ending) (w' : World) : Prop :=
  ∃ o V, TellR n z vol g mir slot o ∧ e = .returned (.tuple #[.agg (pcC (optP o) V), .bool o.isSome]) ∧ RowN w w' V (optP o).B.length (Cod.litZ (optP o).B) ∧ Ch (fun _ => False) w w'
section
variable {n : Nat} {z : Nat → Nat} {vol : Int} {g : Ge} {mir slot : Int} {p : Pn}
theorem tellR_no (h : ∀ vol g mir slot y, TellsR n z vol g mir slot y → p = y) (hn : ¬ TellsR n z vol g mir slot p) : TellR n z vol g mir slot none := fun y =>
  ⟨fun q => (by cases q), fun q => absurd (by rw [h vol g mir slot y q]; exact q) hn⟩
theorem tellR_yes (h : ∀ vol g mir slot y, TellsR n z vol g mir slot y → p = y) (hx : TellsR n z vol g mir slot p) : TellR n z vol g mir slot (some p) := fun y =>
  ⟨fun q => by injection q with q; rw [← q]; exact hx, fun q => by rw [h vol g mir slot y q]⟩
end
set_option maxHeartbeats 6400000 in
theorem rtold_any (A : Option Addr) (n C : Nat) (z : Nat → Nat) (vol : Int) (g : Ge) (mir slot : Int) (w : World) (hv : N64 vol) (h : RowV w (.slice A n C) n z) :
    Calls Tryz.prog 15 #[.slice A n C, .int .i64 vol, .agg (geC g), .int .i64 mir, .int .i64 slot] w (TellPostR n z vol g mir slot w) := by
  obtain ⟨w0, HG, hRG⟩ := geR w g
  obtain ⟨w1, H, hZ⟩ := zePc w0
  have HGX1 := Lib.hid (hRG.x.gr hZ.ch)
  have HGL := Lib.hid (show w1.heap[HG]? = some (.cells (geC g) 23 (0, 0)) from (hZ.ch.block HG (blk_lt hRG.cx) (fun f => f)).trans hRG.cx)
  have HV1 := Lib.hid ((h.gr hRG.ch).gr hZ.ch)
  have HC1 := Lib.hid (hRG.ch.trans hZ.ch)
  have HRG := Lib.hid hRG
  have HZ := Lib.hid hZ
  have HVO := Lib.hid hv
  clear hZ h hRG hv
  go_enter Tryz.func15, Tryz.ntmps15
  go_wp2_with (first | ((with_reducible refine wpList_isOp (.box 23 (.tmp 2)) rfl ?_); refine wpList_boxing _ w0 rfl 23 (.tmp 2) rfl (geC g) HG rfl (by exact HRG.out.sz) (by exact HRG.out.al) ?_) | ((with_reducible refine wpList_isOp (.alloc 26) rfl ?_); refine wpList_making _ w1 rfl 26 rfl (pcC pn0 (.slice none 0 0)) H (zero_pc _) (by exact HZ.out.sz) (by exact HZ.out.al) ?_) | fail)
  refine (rread_any A n C z _ HV1.out).mono ?_
  rintro e w2 ⟨p, V, rfl, hN, hb, hx, hc2⟩
  have hVS : SlV V := by obtain ⟨A, C, e⟩ := hN.len; exact ⟨_, _, _, e⟩
  obtain ⟨wz, w3, H3, hV3⟩ := varPc p hVS w2
  obtain ⟨gx0, gx1, gx2, gx3⟩ := (HGX1.out.gr hc2).gr hV3.ch
  have HL := Lib.hid (load_pc hV3.cx)
  have HIS := Lib.hid (show PcIs w3 p V from ⟨(hN.gr hV3.ch).row, hb⟩)
  have HS := Lib.hid (rsector_any vol g mir p V w3 HVO.out HIS.out)
  have HC3 := Lib.hid (hc2.trans hV3.ch)
  have HN3 := Lib.hid (hN.gr hV3.ch)
  have HX := Lib.hid hx
  have HV3 := Lib.hid hV3
  have HVS := Lib.hid hVS
  have HBY := Lib.hid hb
  clear hx hc2 hV3 hN hb hVS
  go_wp2_with (first
    | ((with_reducible refine wpList_isOp (.alloc 26) rfl ?_); refine wpList_making _ wz rfl 26 rfl (pcC pn0 (.slice none 0 0)) H3 (zero_pc _) (by exact HV3.out.sz) (by exact HV3.out.al) ?_)
    | ((with_reducible refine wpList_isOp (.store 26 (.tmp 12) (.tmp 16)) rfl ?_); refine wpList_storing _ w3 rfl 26 (.tmp 12) (.tmp 16) rfl (.agg (pcC p V)) ⟨H3, 0, none⟩ rfl rfl (by exact HV3.out.st) ?_)
    | ((with_reducible refine wpList_isOp (.load 26 (.tmp 12)) rfl ?_); refine wpList_loading _ rfl 26 (.tmp 12) rfl (.agg (pcC p V)) ⟨H3, 0, none⟩ rfl (by exact HL.out) ?_)
    | fail)
  refine HS.out.mono ?_
  rintro e w4 ⟨A4, C4, rfl, ho4, hc4⟩
  have HC4 := Lib.hid (HC3.out.trans hc4)
  have hx4 := ((HC4.out).block H (blk_lt (o := .cells (pcC pn0 (.slice none 0 0)) 26 (0, 0)) HZ.out.cx) (fun f => f)).trans HZ.out.cx
  have hl4 := (hc4.block H3 (blk_lt HV3.out.cx) (fun f => f)).trans HV3.out.cx
  have HL4 := Lib.hid (load_pc hl4)
  obtain ⟨wn, hn⟩ := stPc pn0 hx4 slV_nil
  obtain ⟨wy, hy⟩ := stPc p hx4 HVS.out
  have HHW := Lib.hid (show w.heap.size ≤ H by rw [← HZ.out.sz]; exact HRG.out.ch.size)
  have HPN := Lib.hid (show ¬ TellsR n z vol g mir slot p → TellPostR n z vol g mir slot w (.returned (.tuple #[.agg (pcC pn0 (.slice none 0 0)), .bool false])) wn from fun q => ⟨none, _, tellR_no HX.out q, rfl, RowN.nil _ _ _, (HC1.out.trans HC4.out).new (hn.ch.mono fun i _ hi => by rw [hi]; exact HHW.out)⟩)
  have HPY := Lib.hid (show TellsR n z vol g mir slot p → TellPostR n z vol g mir slot w (.returned (.tuple #[.agg (pcC p V), .bool true])) wy from fun q => ⟨some p, V, tellR_yes HX.out q, rfl, ((HN3.out.gr hc4).set hy.ch hx4 (by decide)).low HC1.out.size, (HC1.out.trans HC4.out).new (hy.ch.mono fun i _ hi => by rw [hi]; exact HHW.out)⟩)
  have HN := Lib.hid hn
  have HY := Lib.hid hy
  have HV4 := Lib.hid (HV1.out.gr HC4.out)
  have HR4 := Lib.hid (ownsRow_rowV ho4 (by unfold secRN; split <;> omega) (sectR_b HBY.out _))
  have HBN := Lib.hid (build_pc w4)
  have y0 : w4.cell? ⟨H3, 0, none⟩ = some (.int .i64 p.seq) := blk_cell hl4
  have z0 : w4.cell? ⟨HG, 0, none⟩ = some (.int .i64 g.wal) := hc4.cell gx0 (fun f => f)
  clear ho4 hc4 hx4 hl4 hn hy gx0 gx1 gx2 gx3
  cases hs : rokB vol g mir p
  · have HE : secRE vol g mir p = 1 := by unfold secRE; rw [hs]; rfl
    have HT := Lib.hid (HPN.out fun q => by have := q.sec; rw [hs] at this; cases this)
    rw [HE]
    clear hs HE HR4 y0 z0
    go_wp2_with (first
      | ((with_reducible refine wpList_isOp (.build 26 #[]) rfl ?_); refine wpList_building _ rfl 26 #[] rfl _ (by exact HBN.out) ?_)
      | ((with_reducible refine wpList_isOp (.store 26 (.tmp 10) (.tmp 42)) rfl ?_); refine wpList_storing _ wn rfl 26 (.tmp 10) (.tmp 42) rfl (.agg (pcC pn0 (.slice none 0 0))) ⟨H, 0, none⟩ rfl rfl (by exact HN.out.st) ?_)
      | fail)
    exact bodyPost_ret (v := .tuple #[.agg (pcC pn0 (.slice none 0 0)), .bool false]) (results_pc Tryz.results15 _ _ H pn0 _ rfl HN.out.cx) rfl HT.out
  · have HE : secRE vol g mir p = 0 := by unfold secRE; rw [hs]; rfl
    have HQ := Lib.hid (show secRN vol g mir p = 256 by unfold secRN; rw [hs]; rfl)
    have HSK := Lib.hid hs
    obtain ⟨hsp, hsg, _, _⟩ := rokB_iff.1 hs
    have hsq := (mayP_iff.1 hsp).seq
    obtain ⟨⟨wa, wb⟩, _⟩ := may_parts hsg
    have wz : ¬ g.wal = 0 := by omega
    rw [HE]
    clear hs HE
    cases hq : eqB (secRN vol g mir p) n (sectR vol g mir p) z
    · have HT := Lib.hid (HPN.out fun q => by
        have := decide_eq_false_iff_not.1 hq
        exact this ⟨by rw [HQ.out, q.n], fun c hc => (q.z c (by rw [HQ.out] at hc; exact hc)).symm⟩)
      have HEQ := Lib.hid hq
      clear hq
      go_wp2_with (first
        | (go_at_call 49; refine (equal_any _ _ _ _ _ _ _ _ _ HR4.out HV4.out).mono ?_; rintro e w5 ⟨rfl, rfl⟩; rw [HEQ.out])
        | ((with_reducible refine wpList_isOp (.build 26 #[]) rfl ?_); refine wpList_building _ rfl 26 #[] rfl _ (by exact HBN.out) ?_)
        | ((with_reducible refine wpList_isOp (.store 26 (.tmp 10) (.tmp 42)) rfl ?_); refine wpList_storing _ wn rfl 26 (.tmp 10) (.tmp 42) rfl (.agg (pcC pn0 (.slice none 0 0))) ⟨H, 0, none⟩ rfl rfl (by exact HN.out.st) ?_)
        | fail)
      exact bodyPost_ret (v := .tuple #[.agg (pcC pn0 (.slice none 0 0)), .bool false]) (results_pc Tryz.results15 _ _ H pn0 _ rfl HN.out.cx) rfl HT.out
    · have HEQ := Lib.hid hq
      by_cases hsl : p.seq % g.wal = slot
      · have HT := Lib.hid (HPY.out (by
          obtain ⟨q1, q2⟩ := of_decide_eq_true hq
          rw [HQ.out] at q1 q2
          exact ⟨HSK.out, q1.symm, fun c hc => (q2 c hc).symm, hsl, HBY.out⟩))
        have t1 : (p.seq % g.wal != slot) = false := by simpa using hsl
        clear hq hsl
        go_wp2_with (first
          | (go_at_call 49; refine (equal_any _ _ _ _ _ _ _ _ _ HR4.out HV4.out).mono ?_; rintro e w5 ⟨rfl, rfl⟩; rw [HEQ.out])
          | ((with_reducible refine wpList_isOp (.load 26 (.tmp 12)) rfl ?_); refine wpList_loading _ rfl 26 (.tmp 12) rfl (.agg (pcC p V)) ⟨H3, 0, none⟩ rfl (by exact HL4.out) ?_)
          | ((with_reducible refine wpList_isOp (.store 26 (.tmp 10) (.tmp 43)) rfl ?_); refine wpList_storing _ wy rfl 26 (.tmp 10) (.tmp 43) rfl (.agg (pcC p V)) ⟨H, 0, none⟩ rfl rfl (by exact HY.out.st) ?_)
          | fail)
        exact bodyPost_ret (v := .tuple #[.agg (pcC p V), .bool true]) (results_pc Tryz.results15 _ _ H p V rfl HY.out.cx) rfl HT.out
      · have HT := Lib.hid (HPN.out fun q => hsl q.slot)
        have t1 : (p.seq % g.wal != slot) = true := by simpa using hsl
        clear hq hsl
        go_wp2_with (first
          | (go_at_call 49; refine (equal_any _ _ _ _ _ _ _ _ _ HR4.out HV4.out).mono ?_; rintro e w5 ⟨rfl, rfl⟩; rw [HEQ.out])
          | ((with_reducible refine wpList_isOp (.build 26 #[]) rfl ?_); refine wpList_building _ rfl 26 #[] rfl _ (by exact HBN.out) ?_)
          | ((with_reducible refine wpList_isOp (.store 26 (.tmp 10) (.tmp 42)) rfl ?_); refine wpList_storing _ wn rfl 26 (.tmp 10) (.tmp 42) rfl (.agg (pcC pn0 (.slice none 0 0))) ⟨H, 0, none⟩ rfl rfl (by exact HN.out.st) ?_)
          | fail)
        exact bodyPost_ret (v := .tuple #[.agg (pcC pn0 (.slice none 0 0)), .bool false]) (results_pc Tryz.results15 _ _ H pn0 _ rfl HN.out.cx) rfl HT.out
end Go.Proofs.YteleknojohnlbaaGreat
namespace Go.Proofs.YteleknojohnlbaaGreat
open Go.RowKit
set_option linter.unusedVariables false
set_option maxRecDepth 100000
def goesOn (a p : Pn) : Bool := if a.ofn = 0 then true else if p.ep = a.ep then decide (p.fr = a.fr) else (decide (a.ep < p.ep) && decide (p.fr = p.seq))
def fitsP (a : Pn) (s : Int) (p : Pn) : Bool := if p.ch = s then goesOn a p else false
set_option maxHeartbeats 3200000 in
theorem rfits_any (a : Lk) (p : Pn) (V : Value) (w : World) : Calls Tryz.prog 92 #[.agg (lkC a), .agg (pcC p V)] w (Ans (.bool (fitsP a.p a.sum p)) w) := by
  obtain ⟨w0, D, hL⟩ := boxR w (lkC a) 100
  obtain ⟨w1, H, hR⟩ := boxR w0 (pcC p V) 26
  obtain ⟨y0, y1, y2, y3, y4, y5, y6⟩ := pc_x hR.cx
  have a1 : w1.cell? ⟨D, 1, none⟩ = some (.int .i64 a.p.ep) := hR.ch.cell (p := ⟨D, 1, none⟩) (blk_cell hL.cx) (fun f => f)
  have a2 : w1.cell? ⟨D, 2, none⟩ = some (.int .i64 a.p.fr) := hR.ch.cell (p := ⟨D, 2, none⟩) (blk_cell hL.cx) (fun f => f)
  have a5 : w1.cell? ⟨D, 5, none⟩ = some (.int .i64 a.p.ofn) := hR.ch.cell (p := ⟨D, 5, none⟩) (blk_cell hL.cx) (fun f => f)
  have a7 : w1.cell? ⟨D, 7, none⟩ = some (.int .i64 a.sum) := hR.ch.cell (p := ⟨D, 7, none⟩) (blk_cell hL.cx) (fun f => f)
  have HC := Lib.hid (hL.ch.trans hR.ch)
  have HL := Lib.hid hL
  have HR := Lib.hid hR
  clear hL hR
  by_cases q1 : p.ch = a.sum
  · have t1 : (p.ch != a.sum) = false := by simpa using q1
    by_cases q2 : a.p.ofn = 0
    · have t2 : (a.p.ofn == 0) = true := by simpa using q2
      have HE := Lib.hid (show fitsP a.p a.sum p = true by unfold fitsP goesOn; rw [if_pos q1, if_pos q2])
      clear q1 q2
      go_enter Tryz.func92, Tryz.ntmps92
      go_wp2_with (first | ((with_reducible refine wpList_isOp (.box 100 (.tmp 0)) rfl ?_); refine wpList_boxing _ w0 rfl 100 (.tmp 0) rfl (lkC a) D rfl (by exact HL.out.sz) (by exact HL.out.al) ?_) | ((with_reducible refine wpList_isOp (.box 26 (.tmp 1)) rfl ?_); refine wpList_boxing _ w1 rfl 26 (.tmp 1) rfl (pcC p V) H rfl (by exact HR.out.sz) (by exact HR.out.al) ?_))
      go_ret
      exact ⟨ret_bool HE.out.symm, HC.out⟩
    · have t2 : (a.p.ofn == 0) = false := by simpa using q2
      by_cases q3 : p.ep = a.p.ep
      · have t3 : (p.ep == a.p.ep) = true := by simpa using q3
        have HE := Lib.hid (show fitsP a.p a.sum p = (p.fr == a.p.fr) by unfold fitsP goesOn; rw [if_pos q1, if_neg q2, if_pos q3]; rfl)
        clear q1 q2 q3
        go_enter Tryz.func92, Tryz.ntmps92
        go_wp2_with (first | ((with_reducible refine wpList_isOp (.box 100 (.tmp 0)) rfl ?_); refine wpList_boxing _ w0 rfl 100 (.tmp 0) rfl (lkC a) D rfl (by exact HL.out.sz) (by exact HL.out.al) ?_) | ((with_reducible refine wpList_isOp (.box 26 (.tmp 1)) rfl ?_); refine wpList_boxing _ w1 rfl 26 (.tmp 1) rfl (pcC p V) H rfl (by exact HR.out.sz) (by exact HR.out.al) ?_))
        go_ret
        exact ⟨ret_bool HE.out.symm, HC.out⟩
      · have t3 : (p.ep == a.p.ep) = false := by simpa using q3
        by_cases q4 : a.p.ep < p.ep
        · have t4 : decide (a.p.ep < p.ep) = true := decide_eq_true q4
          have HE := Lib.hid (show fitsP a.p a.sum p = (p.fr == p.seq) by unfold fitsP goesOn; rw [if_pos q1, if_neg q2, if_neg q3, t4]; rfl)
          clear q1 q2 q3 q4
          go_enter Tryz.func92, Tryz.ntmps92
          go_wp2_with (first | ((with_reducible refine wpList_isOp (.box 100 (.tmp 0)) rfl ?_); refine wpList_boxing _ w0 rfl 100 (.tmp 0) rfl (lkC a) D rfl (by exact HL.out.sz) (by exact HL.out.al) ?_) | ((with_reducible refine wpList_isOp (.box 26 (.tmp 1)) rfl ?_); refine wpList_boxing _ w1 rfl 26 (.tmp 1) rfl (pcC p V) H rfl (by exact HR.out.sz) (by exact HR.out.al) ?_))
          go_ret
          exact ⟨ret_bool HE.out.symm, HC.out⟩
        · have t4 : decide (a.p.ep < p.ep) = false := decide_eq_false q4
          have HE := Lib.hid (show fitsP a.p a.sum p = false by unfold fitsP goesOn; rw [if_pos q1, if_neg q2, if_neg q3, t4]; rfl)
          clear q1 q2 q3 q4
          go_enter Tryz.func92, Tryz.ntmps92
          go_wp2_with (first | ((with_reducible refine wpList_isOp (.box 100 (.tmp 0)) rfl ?_); refine wpList_boxing _ w0 rfl 100 (.tmp 0) rfl (lkC a) D rfl (by exact HL.out.sz) (by exact HL.out.al) ?_) | ((with_reducible refine wpList_isOp (.box 26 (.tmp 1)) rfl ?_); refine wpList_boxing _ w1 rfl 26 (.tmp 1) rfl (pcC p V) H rfl (by exact HR.out.sz) (by exact HR.out.al) ?_))
          go_ret
          exact ⟨ret_bool HE.out.symm, HC.out⟩
  · have t1 : (p.ch != a.sum) = true := by simpa using q1
    have HE := Lib.hid (show fitsP a.p a.sum p = false by unfold fitsP; rw [if_neg q1])
    clear q1
    go_enter Tryz.func92, Tryz.ntmps92
    go_wp2_with (first | ((with_reducible refine wpList_isOp (.box 100 (.tmp 0)) rfl ?_); refine wpList_boxing _ w0 rfl 100 (.tmp 0) rfl (lkC a) D rfl (by exact HL.out.sz) (by exact HL.out.al) ?_) | ((with_reducible refine wpList_isOp (.box 26 (.tmp 1)) rfl ?_); refine wpList_boxing _ w1 rfl 26 (.tmp 1) rfl (pcC p V) H rfl (by exact HR.out.sz) (by exact HR.out.al) ?_))
    go_ret
    exact ⟨ret_bool HE.out.symm, HC.out⟩
def idxP (a : Lk) (L : List Pv) : Int := match L.findIdx? (fun x => fitsP a.p a.sum x.p) with | some i => (i : Int) | none => -1
set_option maxHeartbeats 3200000 in
theorem rindex_any (a : Lk) (A : Option Addr) (C : Nat) (L : List Pv) (w : World) (h : RwV kdP elP w A C L) : Calls Tryz.prog 91 #[.slice A L.length C, .func (.func 92) #[.agg (lkC a)] #[]] w (Ans (.int .i64 (idxP a L)) w) := by
  have HV := Lib.hid h
  have hle := h.le
  have hnil : A = none → L.length = 0 := fun e => by
    rcases Nat.eq_zero_or_pos L.length with q | q
    · exact q
    · obtain ⟨b, o, e2, _⟩ := h.at' q
      rw [e] at e2; cases e2
  have hcap := h.cap
  clear h
  obtain ⟨n, hn⟩ : ∃ n, n = L.length := ⟨_, rfl⟩
  have HNL := Lib.hid hn
  rw [← hn] at hle hcap hnil ⊢
  have HNI := Lib.hid hnil
  clear hn hnil
  go_enter Tryz.func91, Tryz.ntmps91
  go_wp2
  go_loopw [5, 8, 9, 10, 11, 12, 13, 14, 15, 16] (fun _ i _ _ _ _ _ _ _ _ wr => ∃ k : Nat, k ≤ n ∧ i = .int .i64 k ∧ Hid (Ch (fun _ => False) w wr) ∧ Hid (∀ c x, c < k → L[c]? = some x → fitsP a.p a.sum x.p = false)) (fun _ i _ _ _ _ _ _ _ _ _ => n - (intOf i).toNat)
  case atStart => exact ⟨0, Nat.zero_le _, rfl, Lib.hid (Ch.refl _ w), Lib.hid fun c x hc _ => absurd hc (Nat.not_lt_zero c)⟩
  case round =>
    obtain ⟨k, hk, rfl, HC, HB⟩ := hrel
    by_cases hlt : k < n
    · have i1 : (0 : Int) ≤ (k : Int) := Int.natCast_nonneg _
      have i2 : (k : Int) < (n : Int) := by omega
      obtain ⟨b, o, rfl, hcells⟩ := (HV.out.gr HC.out).at' (by rw [← HNL.out]; omega)
      obtain ⟨x, hx⟩ : ∃ x, L[k]? = some x := ⟨L[k]'(by rw [← HNL.out]; exact hlt), List.getElem?_eq_getElem _⟩
      have hrg : wr.rangeAt b (o + k * 7) (pcC x.p x.V).toList := fun j u hu => hcells k x hx j u hu
      have HLD := Lib.hid (show (loadVar 26 ⟨b, o + k * 7, none⟩).run Tryz.prog wr = .ok (.agg (pcC x.p x.V)) wr from run_loadVar_mid wr b (o + k * 7) _ (pcC x.p x.V).toList _ hrg Tryz.underlying26 rfl (show _ = some 7 by kernel_rfl))
      have HX := Lib.hid hx
      have HLT := Lib.hid hlt
      clear hcells hrg hx hlt
      cases hf : fitsP a.p a.sum x.p
      · have HF := Lib.hid hf
        clear hf
        go_wp2_with (first
          | ((with_reducible refine wpList_isOp (.load 26 (.tmp 14)) rfl ?_); refine wpList_loading _ rfl 26 (.tmp 14) rfl (.agg (pcC x.p x.V)) ⟨b, o + k * 7, none⟩ rfl (by exact HLD.out) ?_)
          | (go_at_call 92; refine (rfits_any a x.p x.V _).mono ?_; rintro e w2 ⟨rfl, hc2⟩; rw [HF.out]))
        go_roundw
        case rel => exact ⟨k + 1, HLT.out, by go_num, Lib.hid (HC.out.trans hc2), Lib.hid fun c y hc hy => by
          by_cases q : c < k
          · exact HB.out c y q hy
          · obtain rfl : c = k := by omega
            rw [HX.out] at hy
            injection hy with hy
            rw [← hy]
            exact HF.out⟩
        case measure => have := HLT.out; simp [intOf]; omega
      · have HF := Lib.hid hf
        have HE := Lib.hid (show idxP a L = (k : Int) by
          have : L.findIdx? (fun x => fitsP a.p a.sum x.p) = some k := by
            rw [List.findIdx?_eq_some_iff_getElem]
            refine ⟨by rw [← HNL.out]; exact HLT.out, ?_, fun j hj => ?_⟩
            · have := HX.out
              rw [List.getElem?_eq_some_iff] at this
              obtain ⟨h1, h2⟩ := this
              rw [h2]; exact HF.out
            · have hjl : j < L.length := by have := HLT.out; rw [← HNL.out]; omega
              have := HB.out j _ hj (List.getElem?_eq_getElem hjl)
              simp [this]
          unfold idxP
          rw [this])
        clear hf
        go_wp2_with (first
          | ((with_reducible refine wpList_isOp (.load 26 (.tmp 14)) rfl ?_); refine wpList_loading _ rfl 26 (.tmp 14) rfl (.agg (pcC x.p x.V)) ⟨b, o + k * 7, none⟩ rfl (by exact HLD.out) ?_)
          | (go_at_call 92; refine (rfits_any a x.p x.V _).mono ?_; rintro e w2 ⟨rfl, hc2⟩; rw [HF.out]))
        go_ret
        exact ⟨ret_int HE.out.symm, HC.out.trans hc2⟩
    · obtain rfl : k = n := by omega
      have HE := Lib.hid (show idxP a L = -1 by
        have : L.findIdx? (fun x => fitsP a.p a.sum x.p) = none := by
          rw [List.findIdx?_eq_none_iff]
          intro x hx
          obtain ⟨i, hi, rfl⟩ := List.getElem_of_mem hx
          exact HB.out i _ (by rw [HNL.out]; exact hi) (List.getElem?_eq_getElem hi)
        unfold idxP
        rw [this])
      clear hlt hk
      go_wp2
      go_ret
      exact ⟨ret_int HE.out.symm, HC.out⟩
def sumR (vol : Int) (g : Ge) (p : Pn) : Int := (Crc.sumZ 256 (sectR vol g 0 p) : Int)
set_option maxHeartbeats 1600000 in
theorem rgSum_any (vol : Int) (g : Ge) (p : Pn) (V : Value) (w : World) (hv : N64 vol) (hr : rokB vol g 0 p = true) (h : PcIs w p V) : Calls Tryz.prog 94 #[.int .i64 vol, .agg (geC g), .agg (pcC p V)] w (Ans (.int .i64 (sumR vol g p)) w) := by
  obtain ⟨w0, HG, hG⟩ := geR w g
  obtain ⟨w1, H, hR⟩ := boxR w0 (pcC p V) 26
  have HLp := Lib.hid (load_pc hR.cx)
  obtain ⟨x0, x1, x2, x3⟩ := hG.x.gr hR.ch
  have HC := Lib.hid (hG.ch.trans hR.ch)
  have HS := Lib.hid (rsector_any vol g 0 p V w1 hv ((h.gr hG.ch).gr hR.ch))
  have HB := Lib.hid h.byt
  have HN := Lib.hid (show secRN vol g 0 p = 256 by unfold secRN; rw [hr]; rfl)
  have HG' := Lib.hid hG
  have HR := Lib.hid hR
  clear hG hR h hr hv
  go_enter Tryz.func94, Tryz.ntmps94
  go_wp2_with (first | ((with_reducible refine wpList_isOp (.box 23 (.tmp 1)) rfl ?_); refine wpList_boxing _ w0 rfl 23 (.tmp 1) rfl (geC g) HG rfl (by exact HG'.out.sz) (by exact HG'.out.al) ?_) | ((with_reducible refine wpList_isOp (.box 26 (.tmp 2)) rfl ?_); refine wpList_boxing _ w1 rfl 26 (.tmp 2) rfl (pcC p V) H rfl (by exact HR.out.sz) (by exact HR.out.al) ?_) | ((with_reducible refine wpList_isOp (.load 26 (.tmp 5)) rfl ?_); refine wpList_loading _ rfl 26 (.tmp 5) rfl (.agg (pcC p V)) ⟨H, 0, none⟩ rfl (by exact HLp.out) ?_))
  refine HS.out.mono ?_
  rintro e w2 ⟨A, C, rfl, ho, hc⟩
  rw [HN.out] at ho ⊢
  have hrow := ownsRow_rowV ho (by omega) (sectR_b HB.out 256)
  have HSU := Lib.hid (sum_any A 256 C (sectR vol g 0 p) w2 hrow)
  have HC2 := Lib.hid (HC.out.trans hc)
  have HE := Lib.hid (show sumR vol g p = (Crc.sumZ 256 (sectR vol g 0 p) : Int) from rfl)
  clear ho hc hrow
  go_wp2_with (go_at_call 116; refine HSU.out.mono ?_; rintro e w3 ⟨rfl, hc3⟩)
  go_ret
  exact ⟨ret_int HE.out.symm, HC2.out.trans hc3⟩
end Go.Proofs.YteleknojohnlbaaGreat
