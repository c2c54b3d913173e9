/-
  The document's Told (quartermasterref10), walked.
-/
import Derived.Test.YtjdknebifcdicaaMg34
import Derived.Test.YtjdknebifcdicaaMg28
import Derived.Test.YtjdknebifcdicaaMg35
import Derived.Test.YtjdknebifcdicaaMg16
import Derived.Test.YtjdknebifcdicaaMg33
import Derived.Deep.RegionHeld3
import Derived.BigRegion
namespace Go.Proofs.Ytjdknebifcdicaa
open Go.RowKit
set_option linter.unusedVariables false
set_option maxRecDepth 100000

/-! ### a number that is got, of any row -/
def GetP (x : Value) (n : Nat) (z : Nat → Nat) (k e : Nat) (w : World) (en : Ending) (w' : World) : Prop :=
  ∃ A C d, en = .returned (.tuple #[.int .i64 (Cod.resV T63 z k e : Int), .slice A (n - Cod.resK T63 z k e) C, .int .i64 (Cod.resE T63 z k e : Int)]) ∧ w' = w.drewN d ∧ RowV w (.slice A (n - Cod.resK T63 z k e) C) (n - Cod.resK T63 z k e) (fun i => z (Cod.resK T63 z k e + i)) ∧ ∀ S, Off S x → Off S (.slice A (n - Cod.resK T63 z k e) C)
set_option maxHeartbeats 800000 in
theorem rget_any (A : Option Addr) (n C : Nat) (z : Nat → Nat) (k e : Nat) (w : World) (h : RowV w (.slice A n C) n z) (hr : Cod.Rd n z k e) : Calls Try.prog 33 #[.slice A n C] w (GetP (.slice A n C) n z k e w) := by
  by_cases hn : n = 0
  · subst hn
    obtain ⟨rfl, rfl⟩ := Cod.rd_one hr (Cod.rd_short (n := 0) (z := z) (by omega) (fun i hi => absurd hi (Nat.not_lt_zero i)))
    have HV := Lib.hid h
    have HD := Lib.hid hr
    clear h hr
    go_enter Try.func33, Try.ntmps33
    go_wp2_with fail
    refine (run_any A 0 C z _ _ _ HV.out HD.out).mono ?_
    rintro e' w' ⟨rfl, rfl⟩
    go_wp2
    refine bodyPost_ret (v := .tuple #[.int .i64 0, .slice A 0 C, .int .i64 6]) (by simp [results, Try.results33, go_sem]) rfl ?_
    have e : Cod.resK T63 z 0 6 = 0 := rfl
    refine ⟨A, C, 0, rfl, rfl, ?_, fun S _ => ?_⟩
    · rw [e]
      simpa using HV.out
    · rw [e]
      exact Off.zero
  · obtain ⟨b, o, rfl, _⟩ := h.at (by omega)
    refine (rgetnum_any _ n C z k e w h (nn_some b o n C) hr).mono ?_
    rintro en w' ⟨y, d, rfl, rfl, h2, _, h3⟩
    obtain ⟨A', C', rfl, _⟩ := id h2
    exact ⟨A', C', d, rfl, rfl, h2, h3⟩
#print axioms rget_any

/-! ### how the numbers are gathered -/
structure GotP (Y : Sp → Prop) (w wr : World) (v l : Value) (k : Nat) : Prop where
  nums : ∃ q, Nums w wr v k q ∧ ∀ y, Y y → ∀ c, c < k → q c = numS y c
  left : ∃ n z, RowV wr l n z ∧ Off (fun i => w.heap.size ≤ i) l ∧ BackTo Y k n z
theorem tell_no' {n : Nat} {z : Nat → Nat} {i : Int} {x : Sp} (h : ∀ y, Tells n z i y → x = y) (hn : ¬ Tells n z i x) : TellS n z i none := fun y =>
  ⟨fun q => (by cases q), fun q => absurd (by rw [h y q]; exact q) hn⟩
theorem tell_yes' {n : Nat} {z : Nat → Nat} {i : Int} {x : Sp} (h : ∀ y, Tells n z i y → x = y) (hx : Tells n z i x) : TellS n z i (some x) := fun y =>
  ⟨fun q => by injection q with q; rw [← q]; exact hx, fun q => by rw [h y q]⟩
theorem row_via {w4 w5 w6 : World} {x : Value} {n : Nat} {z : Nat → Nat} (h : RowV w5 x n z) (ho : Off (fun i => w4.heap.size ≤ i) x) (h5 : Ch (fun _ => False) w4 w5) (h6 : Ch (fun _ => False) w4 w6) : RowV w6 x n z := by
  obtain ⟨A, C, rfl, h2, h3⟩ := h
  refine ⟨A, C, rfl, h2, fun hn => ?_⟩
  obtain ⟨b, o, rfl, hc⟩ := h3 hn
  obtain ⟨m, rfl⟩ : ∃ m, n = m + 1 := ⟨n - 1, by omega⟩
  have hb : b < w4.heap.size := by
    have := ho b o m C rfl
    omega
  have e : w6.heap[b]? = w5.heap[b]? := (h6.block b hb (fun f => f)).trans (h5.block b hb (fun f => f)).symm
  refine ⟨b, o, rfl, fun c hcn => ⟨?_, (hc c hcn).2⟩⟩
  have := (hc c hcn).1
  unfold World.cell? at this ⊢
  rw [e]
  exact this
set_option maxHeartbeats 12800000 in
theorem rtold_any (A : Option Addr) (n C : Nat) (z : Nat → Nat) (i : Int) (w : World) (h : RowV w (.slice A n C) n z) : Calls Try.prog 13 #[.slice A n C, .int .i64 i] w (TellPost n z i w) := by
  obtain ⟨w1, H, hZ⟩ := zeS w
  have HZ := Lib.hid hZ
  have HV1 := Lib.hid (h.gr hZ.ch)
  have HHW := Lib.hid (show w.heap.size ≤ H by rw [hZ.sz]; exact Nat.le_refl _)
  clear hZ h
  go_enter Try.func13, Try.ntmps13
  go_wp2_with ((with_reducible refine wpList_isOp (.alloc 25) rfl ?_); refine wpList_making _ w1 rfl 25 rfl (supC sp0) H (zero_su _) (by exact HZ.out.sz) (by exact HZ.out.al) ?_)
  refine (ropen_any A n C z _ HV1.out).mono ?_
  rintro e w2 ⟨V, rfl, hb2, hc2⟩
  obtain ⟨o, ho⟩ : ∃ o, o = openB n z V := ⟨_, rfl⟩
  rw [← ho] at hb2
  rw [← ho]
  obtain ⟨w3, H3, hZ3⟩ := zeR w2
  obtain ⟨A', C', hoV, _⟩ := id hb2.row
  obtain ⟨w4, h4⟩ := stR (b := o) hZ3.cx ⟨_, _, _, hoV⟩
  have hc4 : Ch (fun _ => False) w2 w4 := hZ3.ch.over h4.ch (by rw [hZ3.sz]; exact Nat.le_refl _)
  have hrow := hb2.row.gr hc4
  rw [hoV] at hrow
  have c5 : w4.cell? ⟨H3, 5, none⟩ = some (.slice A' o.len C') := by
    have : w4.cell? ⟨H3, 5, none⟩ = some o.V := blk_cell h4.cx
    rw [hoV] at this
    exact this
  have HC4 := Lib.hid (hc2.trans hc4)
  have HX4 := Lib.hid h4.cx
  have HH4 := Lib.hid (((hc2.trans hc4).block H (blk_lt (o := .cells (supC sp0) 25 (0, 0)) HZ.out.cx) (fun f => f)).trans HZ.out.cx)
  have HROW := Lib.hid hrow
  have HO := Lib.hid ho
  have HZ3 := Lib.hid hZ3
  have H4 := Lib.hid h4
  have HBN := Lib.hid (fun w => build_su w)
  have HNONE := Lib.hid (show ∀ wr, (∀ y, ¬ Tells n z i y) → Ch (fun _ => False) w1 wr → ∃ w5, StS wr w5 H sp0 ∧ TellPost n z i w (.returned (.tuple #[.agg (supC sp0), .bool false])) w5 from fun wr hn hc => by
    have hx := (hc.block H (blk_lt (o := .cells (supC sp0) 25 (0, 0)) HZ.out.cx) (fun f => f)).trans HZ.out.cx
    obtain ⟨w5, h5⟩ := stS sp0 hx
    exact ⟨w5, h5, none, fun y => ⟨fun q => (by cases q), fun q => absurd q (hn y)⟩, rfl, (HZ.out.ch.trans hc).new (h5.ch.mono fun j _ hj => by rw [hj]; exact HHW.out)⟩)
  clear hb2 hc2 hc4 hZ3 h4 hrow ho hoV
  cases hop : opensB n z
  case false =>
    obtain ⟨w5, h5, hp⟩ := HNONE.out w4 (fun y hy => by have := hy.opens; rw [hop] at this; cases this) HC4.out
    have H5 := Lib.hid h5
    have HP := Lib.hid hp
    have hE : openQ n z ≠ 0 := fun q => by have := openE_zero.1 q; rw [hop] at this; cases this
    obtain ⟨E, hEE⟩ : ∃ E, E = openQ n z := ⟨_, rfl⟩
    rw [← hEE] at hE ⊢
    have t1 : (E != 0) = true := by simpa using hE
    clear hop h5 hp hE hEE
    go_wp2_with (first
      | ((with_reducible refine wpList_isOp (.alloc 61) rfl ?_); refine wpList_making _ w3 rfl 61 rfl (bkC bk0) H3 (zero_bk _) (by exact HZ3.out.sz) (by exact HZ3.out.al) ?_)
      | ((with_reducible refine wpList_isOp (.store 61 (.tmp 6) (.tmp 21)) rfl ?_); refine wpList_storing _ w4 rfl 61 (.tmp 6) (.tmp 21) rfl (.agg (bkC o)) ⟨H3, 0, none⟩ rfl rfl (by exact H4.out.st) ?_)
      | ((with_reducible refine wpList_isOp (.build 25 #[]) rfl ?_); refine wpList_building _ rfl 25 #[] rfl _ (by exact HBN.out _) ?_)
      | ((with_reducible refine wpList_isOp (.store 25 (.tmp 4) (.tmp 25)) rfl ?_); refine wpList_storing _ w5 rfl 25 (.tmp 4) (.tmp 25) rfl (.agg (supC sp0)) ⟨H, 0, none⟩ rfl rfl (by exact H5.out.st) ?_)
      | fail)
    exact bodyPost_ret (v := .tuple #[.agg (supC sp0), .bool false]) (results_su Try.results13 _ _ H sp0 rfl H5.out.cx) rfl HP.out
  rw [openE_zero.2 hop]
  obtain ⟨Y, hY⟩ : ∃ Y : Sp → Prop, Y = fun y => Tells n z i y := ⟨_, rfl⟩
  have HYD := Lib.hid hY
  have HYM := Lib.hid (show ∀ y, Y y → mayS y = true from fun y hy => by rw [hY] at hy; exact (sokB_iff.1 hy.sec).1)
  have HG0 := Lib.hid (show GotP Y w4 w4 (.slice none 0 0) (.slice A' o.len C') 0 from ⟨⟨fun _ => 0, Nums.start w4 _, fun y _ c hc => absurd hc (Nat.not_lt_zero c)⟩, ⟨o.len, o.z, HROW.out, HROW.out.low, by rw [HO.out]; exact BackTo.first (fun y hy => ⟨i, by rw [hY] at hy; exact hy⟩) V⟩⟩)
  have HOP := Lib.hid hop
  clear hop hY
  go_wp2_with (first
    | ((with_reducible refine wpList_isOp (.alloc 61) rfl ?_); refine wpList_making _ w3 rfl 61 rfl (bkC bk0) H3 (zero_bk _) (by exact HZ3.out.sz) (by exact HZ3.out.al) ?_)
    | ((with_reducible refine wpList_isOp (.store 61 (.tmp 6) (.tmp 21)) rfl ?_); refine wpList_storing _ w4 rfl 61 (.tmp 6) (.tmp 21) rfl (.agg (bkC o)) ⟨H3, 0, none⟩ rfl rfl (by exact H4.out.st) ?_)
    | fail)
  clear c5
  go_loopw [8, 9, 10, 11, 12, 13] (fun v l k' _ _ _ wr => ∃ k : Nat, k ≤ 9 ∧ k' = .int .i64 k ∧ Hid (GotP Y w4 wr v l k)) (fun _ _ k' _ _ _ _ => 9 - (intOf k').toNat)
  case atStart => exact ⟨0, Nat.zero_le _, rfl, HG0⟩
  case round =>
    obtain ⟨k, hk, rfl, HK⟩ := hrel
    clear HG0
    obtain ⟨⟨q, hq, hqy⟩, ⟨nn, zz, hrow, hoff, hback⟩⟩ := HK.out
    by_cases hlt : k < 9
    · have i1 : (0 : Int) ≤ (k : Int) := Int.natCast_nonneg _
      have i2 : (k : Int) < 9 := by omega
      obtain ⟨A5, C5, rfl, _⟩ := id hrow
      obtain ⟨kk, ee, hrd⟩ := Cod.rd_some nn zz
      obtain ⟨b1, b2⟩ := hback.next hlt HYM.out hrd
      have HGET := Lib.hid (rget_any A5 nn C5 zz kk ee wr hrow hrd)
      have HB1 := Lib.hid b1
      have HB2 := Lib.hid b2
      have HN := Lib.hid hq
      have HQY := Lib.hid hqy
      have HLT := Lib.hid hlt
      have HOFF := Lib.hid hoff
      clear hlt hq hqy hrow hback b1 b2 hrd HK hoff
      go_wp2_with fail
      refine HGET.out.mono ?_
      rintro e w5 ⟨A6, C6, d, rfl, hw5, hr6, hof6⟩
      have hc5 : Ch (fun _ => False) wr w5 := by rw [hw5]; exact (Ch.refl _ wr).drewN d
      obtain ⟨vv, hvv⟩ : ∃ v, v = Cod.resV T63 zz kk ee := ⟨_, rfl⟩
      obtain ⟨ve, hve⟩ : ∃ v, v = Cod.resE T63 zz kk ee := ⟨_, rfl⟩
      obtain ⟨vn, hvn⟩ : ∃ v, v = nn - Cod.resK T63 zz kk ee := ⟨_, rfl⟩
      have hr7 := hr6.gr hc5
      have ho7 := hof6 _ HOFF.out
      rw [← hvn] at hr7 HB1 ho7
      have HO7 := Lib.hid ho7
      rw [← hvv, ← hve] at HB2
      rw [← hvv, ← hve, ← hvn]
      have HC5 := Lib.hid (HN.out.ch.trans hc5)
      have HN5 := Lib.hid (show Nums w4 w5 _ k q from ⟨ownsRow_ch HN.out.own hc5, HN.out.ch.trans hc5⟩)
      have HR7 := Lib.hid hr7
      clear hw5 hr6 hr7 hc5 hvv hve hvn HGET hof6 ho7 HOFF
      by_cases hz : ve = 0
      · subst hz
        have hq2 : Nums w4 w5 _ k (up q k (vv : Int)) := ⟨by rw [← numL_congr fun c hc => (up_other q (vv : Int) (show c ≠ k by omega)).symm]; exact HN5.out.own, HN5.out.ch⟩
        obtain ⟨g, cap, w6, hr8, hn8⟩ := hq2.app (by have := HLT.out; omega)
        have HRUN := Lib.hid (hr8 (vv : Int) (up_same q k (vv : Int)).symm)
        have HG := Lib.hid (show GotP Y w4 w6 (.slice (some ⟨g, 0, none⟩) (k + 1) cap) (.slice A6 vn C6) (k + 1) from ⟨⟨_, hn8, fun y hy c hc => by
          by_cases w : c = k
          · subst w; rw [up_same]; exact (HB2.out y hy).2
          · rw [up_other _ _ w]; exact HQY.out y hy c (by omega)⟩, ⟨vn, _, row_via HR7.out HO7.out HN5.out.ch hn8.ch, HO7.out, HB1.out⟩⟩)
        clear hq2 hr8 hn8
        go_wp2_with (at_builtin; refine wpList_appI _ rfl (.tmp 41) (.tmp 43) rfl rfl _ _ (.slice (some ⟨g, 0, none⟩) (k + 1) cap) w6 rfl rfl (by exact HRUN.out) ?_)
        go_roundw
        case rel => exact ⟨k + 1, HLT.out, by go_num, HG⟩
        case measure => have := HLT.out; simp [intOf]; omega
      · have t1 : ((ve : Int) != 0) = true := by simp; omega
        obtain ⟨w6, h6, hp⟩ := HNONE.out w5 (fun y hy => hz (HB2.out y (by rw [HYD.out]; exact hy)).1) (HC4.out.trans HC5.out)
        have H6 := Lib.hid h6
        have HP := Lib.hid hp
        clear hz h6 hp
        go_wp2_with (first
          | ((with_reducible refine wpList_isOp (.build 25 #[]) rfl ?_); refine wpList_building _ rfl 25 #[] rfl _ (by exact HBN.out _) ?_)
          | ((with_reducible refine wpList_isOp (.store 25 (.tmp 4) (.tmp 40)) rfl ?_); refine wpList_storing _ w6 rfl 25 (.tmp 4) (.tmp 40) rfl (.agg (supC sp0)) ⟨H, 0, none⟩ rfl rfl (by exact H6.out.st) ?_)
          | fail)
        exact bodyPost_ret (v := .tuple #[.agg (supC sp0), .bool false]) (results_su Try.results13 _ _ H sp0 rfl H6.out.cx) rfl HP.out
    · obtain rfl : k = 9 := by omega
      have hV := own_intV hq.own (by omega)
      obtain ⟨A5, C5, rfl, _⟩ := hV.len
      obtain ⟨g, go, rfl, hcs⟩ := hV.at (by omega)
      have hc0 : wr.cell? ⟨g, go, none⟩ = some (.int .i64 (q 0)) := hcs 0 (by omega)
      have hc1 := hcs 1 (by omega)
      have hc2 := hcs 2 (by omega)
      have hc3 := hcs 3 (by omega)
      have hc4 := hcs 4 (by omega)
      have hc5 := hcs 5 (by omega)
      have hc6 := hcs 6 (by omega)
      have hc7 := hcs 7 (by omega)
      have hc8 := hcs 8 (by omega)
      have hx3 := (hq.ch.block H3 (blk_lt (o := .cells (bkC o) 61 (0, 0)) HX4.out) (fun f => f)).trans HX4.out
      have b1 : wr.cell? ⟨H3, 1, none⟩ = some (.int .i64 o.vol) := blk_cell hx3
      have b3 : wr.cell? ⟨H3, 3, none⟩ = some (.int .i64 o.epoch) := blk_cell hx3
      have b4 : wr.cell? ⟨H3, 4, none⟩ = some (.int .i64 o.seq) := blk_cell hx3
      have HQY := Lib.hid hqy
      have HCH := Lib.hid hq.ch
      clear hq hqy hrow hoff hback hV hcs hx3 hlt hk HK
      rw [show ((9 : Nat) : Int) = 9 from rfl]
      go_wp2
      go_region_held3 (fun w' => w'.cell? ⟨H3, 1, none⟩ = some (.int .i64 o.vol) ∧ w'.cell? ⟨H3, 3, none⟩ = some (.int .i64 o.epoch) ∧ w'.cell? ⟨H3, 4, none⟩ = some (.int .i64 o.seq) ∧ w'.cell? ⟨g, go, none⟩ = some (.int .i64 (q 0)) ∧ w'.cell? ⟨g, go + 1, none⟩ = some (.int .i64 (q 1)) ∧ w'.cell? ⟨g, go + 2, none⟩ = some (.int .i64 (q 2)) ∧ w'.cell? ⟨g, go + 3, none⟩ = some (.int .i64 (q 3)) ∧ w'.cell? ⟨g, go + 4, none⟩ = some (.int .i64 (q 4))) (first | go_keep) (first | (fail))
      obtain ⟨H6, hH6⟩ : ∃ H6, H6 = wr.heap.size := ⟨_, rfl⟩
      obtain ⟨w5, hw5⟩ : ∃ w5, w5 = (wr.alloc (.cells #[.int .i64 o.vol, .int .i64 o.seq, .int .i64 o.epoch, .int .i64 (q 0), .int .i64 (q 1), .int .i64 (q 2), .int .i64 (q 3), .int .i64 (q 4), .int .i64 0, .int .i64 0, .int .i64 0, .int .i64 0] 25)).drew := ⟨_, rfl⟩
      have hcw : Ch (fun _ => False) wr w5 := by rw [hw5]; exact ((Ch.refl _ wr).alloc _ _).drew
      have hx6 : w5.heap[H6]? = some (.cells (supC ⟨o.vol, o.seq, o.epoch, q 0, q 1, q 2, q 3, q 4, ⟨0, 0, 0, 0⟩⟩) 25 (0, 0)) := by rw [hw5, hH6]; exact heap_alloc_new wr _
      have gne : g ≠ H6 := by
        have := World.block_lt_of_cell? _ _ hc0
        simp at this
        omega
      have gne2 : H6 ≠ g := fun e => gne e.symm
      have d5 := hcw.cell hc5 (fun f => f)
      have d6 := hcw.cell hc6 (fun f => f)
      have d7 := hcw.cell hc7 (fun f => f)
      have d8 := hcw.cell hc8 (fun f => f)
      have e8 : w5.cell? ⟨H6, 8, none⟩ = some (.int .i64 0) := blk_cell hx6
      have e9 : w5.cell? ⟨H6, 9, none⟩ = some (.int .i64 0) := blk_cell hx6
      have e10 : w5.cell? ⟨H6, 10, none⟩ = some (.int .i64 0) := blk_cell hx6
      have e11 : w5.cell? ⟨H6, 11, none⟩ = some (.int .i64 0) := blk_cell hx6
      have f8 : w5.frozen? ⟨H6, 8, none⟩ = false := blk_frozen hx6
      have f9 : w5.frozen? ⟨H6, 9, none⟩ = false := blk_frozen hx6
      have f10 : w5.frozen? ⟨H6, 10, none⟩ = false := blk_frozen hx6
      have f11 : w5.frozen? ⟨H6, 11, none⟩ = false := blk_frozen hx6
      have HX6 := Lib.hid hx6
      have HC5 := Lib.hid (HCH.out.trans hcw)
      rw [← hw5, ← hH6]
      have HH6 := Lib.hid (show w4.heap.size ≤ H6 by rw [hH6]; exact HCH.out.size)
      clear hc0 hc1 hc2 hc3 hc4 hc5 hc6 hc7 hc8 b1 b3 b4 hw5 hH6 hcw hx6
      go_wp2
      go_region_held3 (fun w' => w'.cell? ⟨g, go + 5, none⟩ = some (.int .i64 (q 5)) ∧ w'.cell? ⟨g, go + 6, none⟩ = some (.int .i64 (q 6)) ∧ w'.cell? ⟨g, go + 7, none⟩ = some (.int .i64 (q 7)) ∧ w'.cell? ⟨g, go + 8, none⟩ = some (.int .i64 (q 8))) (first | go_keep) (first | (fail))
      obtain ⟨x, hx⟩ : ∃ x, x = spOf o.vol o.seq o.epoch q := ⟨_, rfl⟩
      obtain ⟨w6, hw6⟩ : ∃ w6, w6 = ((((w5.setCell ⟨H6, 8, none⟩ (.int .i64 (q 5))).setCell ⟨H6, 9, none⟩ (.int .i64 (q 6))).setCell ⟨H6, 10, none⟩ (.int .i64 (q 7))).setCell ⟨H6, 11, none⟩ (.int .i64 (q 8))).drew := ⟨_, rfl⟩
      have hx6 : w6.heap[H6]? = some (.cells (supC x) 25 (0, 0)) := by
        rw [hw6, hx]
        exact blk_set (blk_set (blk_set (blk_set HX6.out (.int .i64 (q 5))) (.int .i64 (q 6))) (.int .i64 (q 7))) (.int .i64 (q 8))
      have hc6 : Ch (fun j => j = H6) w5 w6 := by
        rw [hw6]
        exact (((((Ch.refl (fun j => j = H6) w5).setCell (p := ⟨H6, 8, none⟩) (Or.inl rfl) _).setCell (p := ⟨H6, 9, none⟩) (Or.inl rfl) _).setCell (p := ⟨H6, 10, none⟩) (Or.inl rfl) _).setCell (p := ⟨H6, 11, none⟩) (Or.inl rfl) _).drew
      have HC6 := Lib.hid (HC4.out.trans (HC5.out.new (hc6.mono fun j _ hj => by rw [hj]; exact HH6.out)))
      have HXY := Lib.hid (show ∀ y, Tells n z i y → x = y from fun y hy => by
        have s := hy.back V
        rw [← openB_yes hy.opens V, ← HO.out] at s
        rw [hx]
        exact spOf_eq s.vol s.seq s.epoch (fun c hc => HQY.out y (by rw [HYD.out]; exact hy) c hc))
      have HX7 := Lib.hid hx6
      have HL6 := Lib.hid (load_su hx6)
      have HS := Lib.hid (rsecS_any x i w6)
      have HVN := Lib.hid (HV1.out.gr HC6.out)
      rw [← hw6]
      clear d5 d6 d7 d8 e8 e9 e10 e11 f8 f9 f10 f11 gne gne2 hx hw6 hx6 hc6 HX6 HBN
      go_wp2_with (first | ((with_reducible refine wpList_isOp (.load 25 (.tmp 14)) rfl ?_); refine wpList_loading _ rfl 25 (.tmp 14) rfl (.agg (supC x)) ⟨H6, 0, none⟩ rfl (by exact HL6.out) ?_) | fail)
      refine HS.out.mono ?_
      rintro e w7 ⟨A7, C7, rfl, ho7, hc7⟩
      have HR7 := Lib.hid (ownsRow_rowV ho7 (by unfold secN; split <;> omega) (sectS_b _))
      have HV7 := Lib.hid (HVN.out.gr hc7)
      have HC7 := Lib.hid (HC6.out.trans hc7)
      have HX8 := Lib.hid ((hc7.block H6 (blk_lt (o := .cells (supC x) 25 (0, 0)) HX7.out) (fun f => f)).trans HX7.out)
      clear ho7 hc7
      go_wp2_with fail
      refine (same_any _ _ _ _ _ _ _ _ _ HV7.out HR7.out).mono ?_
      rintro e w8 ⟨rfl, dd, hw8⟩
      have hc8 : Ch (fun _ => False) w7 w8 := by rw [hw8]; exact (Ch.refl _ w7).drewN dd
      have hc18 := HC7.out.trans hc8
      have hxH := (hc18.block H (blk_lt (o := .cells (supC sp0) 25 (0, 0)) HZ.out.cx) (fun f => f)).trans HZ.out.cx
      have HL8 := Lib.hid (load_su ((hc8.block H6 (blk_lt (o := .cells (supC x) 25 (0, 0)) HX8.out) (fun f => f)).trans HX8.out))
      obtain ⟨wn, hn⟩ := stS sp0 hxH
      obtain ⟨wy, hy⟩ := stS x hxH
      have HPN := Lib.hid (show ¬ Tells n z i x → TellPost n z i w (.returned (.tuple #[.agg (supC sp0), .bool false])) wn from fun q => ⟨none, tell_no' HXY.out q, rfl, (HZ.out.ch.trans hc18).new (hn.ch.mono fun j _ hj => by rw [hj]; exact HHW.out)⟩)
      have HPY := Lib.hid (show Tells n z i x → TellPost n z i w (.returned (.tuple #[.agg (supC x), .bool true])) wy from fun q => ⟨some x, tell_yes' HXY.out q, rfl, (HZ.out.ch.trans hc18).new (hy.ch.mono fun j _ hj => by rw [hj]; exact HHW.out)⟩)
      have HN := Lib.hid hn
      have HY := Lib.hid hy
      have HBN := Lib.hid (build_su w8)
      clear hw8 hc8 hc18 hxH hn hy
      cases hs : sokB x i
      · have HE : secE x i = 1 := by unfold secE; rw [hs]; rfl
        have HT := Lib.hid (HPN.out fun q => by have := q.sec; rw [hs] at this; cases this)
        rw [HE]
        clear hs HE HR7
        go_wp2_with (first
          | ((with_reducible refine wpList_isOp (.build 25 #[]) rfl ?_); refine wpList_building _ rfl 25 #[] rfl _ (by exact HBN.out) ?_)
          | ((with_reducible refine wpList_isOp (.store 25 (.tmp 4) (.tmp 97)) rfl ?_); refine wpList_storing _ wn rfl 25 (.tmp 4) (.tmp 97) rfl (.agg (supC sp0)) ⟨H, 0, none⟩ rfl rfl (by exact HN.out.st) ?_)
          | fail)
        exact bodyPost_ret (v := .tuple #[.agg (supC sp0), .bool false]) (results_su Try.results13 _ _ H sp0 rfl HN.out.cx) rfl HT.out
      · have HE : secE x i = 0 := by unfold secE; rw [hs]; rfl
        have HQ := Lib.hid (show secN x i = 256 by unfold secN; rw [hs]; rfl)
        have HSK := Lib.hid hs
        rw [HE]
        clear hs HE
        cases hq : eqB n (secN x i) z (sectS x i)
        · have HT := Lib.hid (HPN.out fun q => by
            have := decide_eq_false_iff_not.1 hq
            exact this ⟨by rw [HQ.out, q.n], fun c hc => q.z c (by rw [q.n] at hc; exact hc)⟩)
          clear hq
          go_wp2_with (first
            | ((with_reducible refine wpList_isOp (.build 25 #[]) rfl ?_); refine wpList_building _ rfl 25 #[] rfl _ (by exact HBN.out) ?_)
            | ((with_reducible refine wpList_isOp (.store 25 (.tmp 4) (.tmp 97)) rfl ?_); refine wpList_storing _ wn rfl 25 (.tmp 4) (.tmp 97) rfl (.agg (supC sp0)) ⟨H, 0, none⟩ rfl rfl (by exact HN.out.st) ?_)
            | fail)
          exact bodyPost_ret (v := .tuple #[.agg (supC sp0), .bool false]) (results_su Try.results13 _ _ H sp0 rfl HN.out.cx) rfl HT.out
        · have HT := Lib.hid (HPY.out (by
            obtain ⟨q1, q2⟩ := of_decide_eq_true hq
            rw [HQ.out] at q1
            exact ⟨HSK.out, q1, fun c hc => q2 c (by rw [q1]; exact hc)⟩))
          clear hq
          go_wp2_with (first
            | ((with_reducible refine wpList_isOp (.load 25 (.tmp 14)) rfl ?_); refine wpList_loading _ rfl 25 (.tmp 14) rfl (.agg (supC x)) ⟨H6, 0, none⟩ rfl (by exact HL8.out) ?_)
            | ((with_reducible refine wpList_isOp (.store 25 (.tmp 4) (.tmp 98)) rfl ?_); refine wpList_storing _ wy rfl 25 (.tmp 4) (.tmp 98) rfl (.agg (supC x)) ⟨H, 0, none⟩ rfl rfl (by exact HY.out.st) ?_)
            | fail)
          exact bodyPost_ret (v := .tuple #[.agg (supC x), .bool true]) (results_su Try.results13 _ _ H x rfl HY.out.cx) rfl HT.out
#print axioms rtold_any
end Go.Proofs.Ytjdknebifcdicaa
