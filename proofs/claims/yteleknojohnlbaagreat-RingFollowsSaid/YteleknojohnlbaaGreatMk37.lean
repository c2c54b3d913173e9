/-
  The document's Told (quartermasterref11), walked. The document's clean, Same (of two tails that are the same) and grouped (quartermasterref11), walked.
-/
import Derived.Test.YteleknojohnlbaaGreatMk34
import Derived.Test.YteleknojohnlbaaGreatMk24
import Derived.Test.YteleknojohnlbaaGreatMk35
import Derived.Test.YteleknojohnlbaaGreatMk36
import Derived.Test.YteleknojohnlbaaGreatMk33
import Derived.Deep.RegionHeld3
import Derived.BigRegion
import Derived.Test.YteleknojohnlbaaGreatMk2
import Derived.BigQuiet
namespace Go.Proofs.YteleknojohnlbaaGreat
open Go.RowKit
set_option linter.unusedVariables false
set_option maxRecDepth 100000
set_option linter.unusedSimpArgs false
structure GotQ (Y : Pn → Prop) (w wr : World) (v l : Value) (k : Nat) : Prop where
  nums : ∃ q, Nums w wr v k q ∧ ∀ y, Y y → ∀ c, c < k → q c = numR y c
  left : ∃ n z, RowV wr l n z ∧ Off (fun i => w.heap.size ≤ i) l ∧ BackR Y k n z ∧ n ≤ 300
theorem readB_seq (V : Value) (z : Nat → Nat) : 0 ≤ (readB V z).seq := Int.natCast_nonneg _
set_option maxHeartbeats 12800000 in
theorem r11told_any (A : Option Addr) (n C : Nat) (z : Nat → Nat) (vol : Int) (g : Ge) (mir slot : Int) (w : World) (hv : N64 vol) (h : RowV w (.slice A n C) n z) :
    Calls Tryz.prog 16 #[.slice A n C, .int .i64 vol, .agg (geC g), .int .i64 mir, .int .i64 slot] w (TellPostR n z vol g mir slot w) := by
  obtain ⟨w0, HG, hRG⟩ := geR w g
  obtain ⟨w1, H, hZ⟩ := zePc w0
  have HGX1 := Lib.hid (hRG.x.gr hZ.ch)
  have HV1 := Lib.hid ((h.gr hRG.ch).gr hZ.ch)
  have HC1 := Lib.hid (hRG.ch.trans hZ.ch)
  have HHW := Lib.hid (show w.heap.size ≤ H by rw [← hZ.sz]; exact hRG.ch.size)
  have HRG := Lib.hid hRG
  have HZ := Lib.hid hZ
  have HVO := Lib.hid hv
  clear hZ h hRG hv
  go_enter Tryz.func16, Tryz.ntmps16
  go_wp2_with (first | ((with_reducible refine wpList_isOp (.box 23 (.tmp 2)) rfl ?_); refine wpList_boxing _ w0 rfl 23 (.tmp 2) rfl (geC g) HG rfl (by exact HRG.out.sz) (by exact HRG.out.al) ?_) | ((with_reducible refine wpList_isOp (.alloc 26) rfl ?_); refine wpList_making _ w1 rfl 26 rfl (pcC pn0 (.slice none 0 0)) H (zero_pc _) (by exact HZ.out.sz) (by exact HZ.out.al) ?_) | fail)
  refine (ropen_any A n C z _ HV1.out).mono ?_
  rintro e w2 ⟨V, rfl, hb2, hc2⟩
  obtain ⟨o, ho⟩ : ∃ o, o = openB n z V := ⟨_, rfl⟩
  rw [← ho] at hb2
  rw [← ho]
  obtain ⟨w3, H3, hZ3⟩ := zeR w2
  obtain ⟨A', C', hoV, _⟩ := id hb2.row
  obtain ⟨w4, h4⟩ := stR (b := o) hZ3.cx ⟨_, _, _, hoV⟩
  have hc4 : Ch (fun _ => False) w2 w4 := hZ3.ch.over h4.ch (by rw [hZ3.sz]; exact Nat.le_refl _)
  have hrow := hb2.row.gr hc4
  rw [hoV] at hrow
  have HC4 := Lib.hid (hc2.trans hc4)
  have HX4 := Lib.hid h4.cx
  have HROW := Lib.hid hrow
  have HO := Lib.hid ho
  have HOV := Lib.hid hoV
  have HZ3 := Lib.hid hZ3
  have H4 := Lib.hid h4
  have HBN := Lib.hid (fun w => build_pc w)
  have HNONE := Lib.hid (show ∀ wr, (∀ y, ¬ TellsR n z vol g mir slot y) → Ch (fun _ => False) w1 wr → ∃ w5, StPc wr w5 H pn0 (.slice none 0 0) ∧ TellPostR n z vol g mir slot w (.returned (.tuple #[.agg (pcC pn0 (.slice none 0 0)), .bool false])) w5 from fun wr hn hc => by
    have hx := (hc.block H (blk_lt (o := .cells (pcC pn0 (.slice none 0 0)) 26 (0, 0)) HZ.out.cx) (fun f => f)).trans HZ.out.cx
    obtain ⟨w5, h5⟩ := stPc pn0 hx slV_nil
    exact ⟨w5, h5, none, _, fun y => ⟨fun q => (by cases q), fun q => absurd q (hn y)⟩, rfl, RowN.nil _ _ _, (HC1.out.trans hc).new (h5.ch.mono fun j _ hj => by rw [hj]; exact HHW.out)⟩)
  clear hb2 hc2 hc4 hZ3 h4 hrow ho hoV
  obtain ⟨E, hEE⟩ : ∃ E, E = openQ n z := ⟨_, rfl⟩
  have HEE := Lib.hid hEE
  rw [← hEE]
  clear hEE
  obtain ⟨x0, x1, x2, x3⟩ := HGX1.out.gr HC4.out
  go_wp2_with (first
    | ((with_reducible refine wpList_isOp (.alloc 80) rfl ?_); refine wpList_making _ w3 rfl 80 rfl (bkC bk0) H3 (zero_bk _) (by exact HZ3.out.sz) (by exact HZ3.out.al) ?_)
    | ((with_reducible refine wpList_isOp (.store 80 (.tmp 12) (.tmp 31)) rfl ?_); refine wpList_storing _ w4 rfl 80 (.tmp 12) (.tmp 31) rfl (.agg (bkC o)) ⟨H3, 0, none⟩ rfl rfl (by exact H4.out.st) ?_)
    | fail)
  refine (rgmay_any g _).mono ?_
  rintro e w5 ⟨rfl, hc5⟩
  have HX5 := Lib.hid ((hc5.block H3 (blk_lt HX4.out) (fun f => f)).trans HX4.out)
  have HGX5 := Lib.hid ((HGX1.out.gr HC4.out).gr hc5)
  have HC5 := Lib.hid (HC4.out.trans hc5)
  have HROW5 := Lib.hid (HROW.out.gr hc5)
  clear x0 x1 x2 x3 hc5 HROW HZ3 H4
  have b4 : w5.cell? ⟨H3, 4, none⟩ = some (.int .i64 o.seq) := blk_cell HX5.out
  obtain ⟨x0, _, _, _⟩ := HGX5.out
  cases hop : opensB n z
  case false =>
    obtain ⟨wn, hn, hp⟩ := HNONE.out w5 (fun y hy => by have := hy.opens; rw [hop] at this; cases this) HC5.out
    have HN := Lib.hid hn
    have HP := Lib.hid hp
    have t1 : (E != 0) = true := by
      have hE : E ≠ 0 := fun q => by have := openE_zero.1 (HEE.out.symm.trans q); rw [hop] at this; cases this
      simpa using hE
    clear hn hp hop b4 x0
    go_wp2_with (first
      | ((with_reducible refine wpList_isOp (.build 26 #[]) rfl ?_); refine wpList_building _ rfl 26 #[] rfl _ (by exact HBN.out _) ?_)
      | ((with_reducible refine wpList_isOp (.store 26 (.tmp 10) (.tmp 50)) rfl ?_); refine wpList_storing _ wn rfl 26 (.tmp 10) (.tmp 50) rfl (.agg (pcC pn0 (.slice none 0 0))) ⟨H, 0, none⟩ rfl rfl (by exact HN.out.st) ?_)
      | fail)
    exact bodyPost_ret (v := .tuple #[.agg (pcC pn0 (.slice none 0 0)), .bool false]) (results_pc Tryz.results16 _ _ H pn0 _ rfl HN.out.cx) rfl HP.out
  obtain rfl : E = 0 := HEE.out.trans (openE_zero.2 hop)
  cases hg : mayG g
  case false =>
    obtain ⟨wn, hn, hp⟩ := HNONE.out w5 (fun y hy => by have := (rokB_iff.1 hy.sec).2.1; rw [hg] at this; cases this) HC5.out
    have HN := Lib.hid hn
    have HP := Lib.hid hp
    clear hn hp hop b4 x0 hg
    go_wp2_with (first
      | ((with_reducible refine wpList_isOp (.build 26 #[]) rfl ?_); refine wpList_building _ rfl 26 #[] rfl _ (by exact HBN.out _) ?_)
      | ((with_reducible refine wpList_isOp (.store 26 (.tmp 10) (.tmp 50)) rfl ?_); refine wpList_storing _ wn rfl 26 (.tmp 10) (.tmp 50) rfl (.agg (pcC pn0 (.slice none 0 0))) ⟨H, 0, none⟩ rfl rfl (by exact HN.out.st) ?_)
      | fail)
    exact bodyPost_ret (v := .tuple #[.agg (pcC pn0 (.slice none 0 0)), .bool false]) (results_pc Tryz.results16 _ _ H pn0 _ rfl HN.out.cx) rfl HP.out
  have HRB := Lib.hid (show o = readB V z from HO.out.trans (openB_yes hop V))
  have hsq : 0 ≤ o.seq := by rw [HRB.out]; exact readB_seq V z
  obtain ⟨⟨wa, wb⟩, _⟩ := may_parts hg
  have wz : ¬ g.wal = 0 := by omega
  by_cases hsl : o.seq % g.wal = slot
  case neg =>
    obtain ⟨wn, hn, hp⟩ := HNONE.out w5 (fun y hy => hsl (by rw [HRB.out, (hy.back V).seq]; exact hy.slot)) HC5.out
    have HN := Lib.hid hn
    have HP := Lib.hid hp
    have t1 : (o.seq % g.wal != slot) = true := by simpa using hsl
    clear hn hp hop hg hsl
    go_wp2_with (first
      | ((with_reducible refine wpList_isOp (.build 26 #[]) rfl ?_); refine wpList_building _ rfl 26 #[] rfl _ (by exact HBN.out _) ?_)
      | ((with_reducible refine wpList_isOp (.store 26 (.tmp 10) (.tmp 50)) rfl ?_); refine wpList_storing _ wn rfl 26 (.tmp 10) (.tmp 50) rfl (.agg (pcC pn0 (.slice none 0 0))) ⟨H, 0, none⟩ rfl rfl (by exact HN.out.st) ?_)
      | fail)
    exact bodyPost_ret (v := .tuple #[.agg (pcC pn0 (.slice none 0 0)), .bool false]) (results_pc Tryz.results16 _ _ H pn0 _ rfl HN.out.cx) rfl HP.out
  have t1 : (o.seq % g.wal != slot) = false := by simpa using hsl
  have HSL := Lib.hid hsl
  obtain ⟨Y, hY⟩ : ∃ Y : Pn → Prop, Y = fun y => TellsR n z vol g mir slot y := ⟨_, rfl⟩
  have HYD := Lib.hid hY
  have HYM := Lib.hid (show ∀ y, Y y → mayP y = true from fun y hy => by rw [hY] at hy; exact hy.may)
  have HG0 := Lib.hid (show GotQ Y w5 w5 (.slice none 0 0) (.slice A' o.len C') 0 from ⟨⟨fun _ => 0, Nums.start w5 _, fun y _ c hc => absurd hc (Nat.not_lt_zero c)⟩, ⟨o.len, o.z, HROW5.out, HROW5.out.low, by rw [HO.out]; exact BackR.first (fun y hy => ⟨vol, g, mir, slot, by rw [hY] at hy; exact hy⟩) V, by have := open_len (n := n) (z := z) (V := V); rw [HO.out]; omega⟩⟩)
  have c5 : w5.cell? ⟨H3, 5, none⟩ = some (.slice A' o.len C') := by
    have : w5.cell? ⟨H3, 5, none⟩ = some o.V := blk_cell HX5.out
    rw [HOV.out] at this
    exact this
  have HOP := Lib.hid hop
  clear hop hY hg hsl wa wb
  go_wp2_with fail
  clear c5 b4 x0 t1 hsq wz
  go_loopw [15, 16, 17, 18, 19, 20] (fun v l k' _ _ _ wr => ∃ k : Nat, k ≤ 4 ∧ k' = .int .i64 k ∧ Hid (GotQ Y w5 wr v l k)) (fun _ _ k' _ _ _ _ => 4 - (intOf k').toNat)
  case atStart => exact ⟨0, Nat.zero_le _, rfl, HG0⟩
  case round =>
    obtain ⟨k, hk, rfl, HK⟩ := hrel
    clear HG0
    obtain ⟨⟨q, hq, hqy⟩, ⟨nn, zz, hrow, hoff, hback, hnn⟩⟩ := HK.out
    by_cases hlt : k < 4
    · have i1 : (0 : Int) ≤ (k : Int) := Int.natCast_nonneg _
      have i2 : (k : Int) < 4 := by omega
      obtain ⟨A5, C5, rfl, _⟩ := id hrow
      obtain ⟨kk, ee, hrd⟩ := Cod.rd_some nn zz
      obtain ⟨b1, b2⟩ := hback.next hlt HYM.out hrd
      have HGET := Lib.hid (rget_any A5 nn C5 zz kk ee wr hrow hrd)
      have HB1 := Lib.hid b1
      have HB2 := Lib.hid b2
      have HN := Lib.hid hq
      have HQY := Lib.hid hqy
      have HLT := Lib.hid hlt
      have HOFF := Lib.hid hoff
      have HNL := Lib.hid hnn
      clear hlt hq hqy hrow hback b1 b2 hrd HK hoff hnn
      go_wp2_with fail
      refine HGET.out.mono ?_
      rintro e w6 ⟨A6, C6, d, rfl, hw5, hr6, hof6⟩
      have hc5 : Ch (fun _ => False) wr w6 := by rw [hw5]; exact (Ch.refl _ wr).drewN d
      obtain ⟨vv, hvv⟩ : ∃ v, v = Cod.resV T63 zz kk ee := ⟨_, rfl⟩
      obtain ⟨ve, hve⟩ : ∃ v, v = Cod.resE T63 zz kk ee := ⟨_, rfl⟩
      obtain ⟨vn, hvn⟩ : ∃ v, v = nn - Cod.resK T63 zz kk ee := ⟨_, rfl⟩
      have hr7 := hr6.gr hc5
      have ho7 := hof6 _ HOFF.out
      rw [← hvn] at hr7 HB1 ho7
      have HVN := Lib.hid (show vn ≤ 300 by have := HNL.out; omega)
      have HO7 := Lib.hid ho7
      rw [← hvv, ← hve] at HB2
      rw [← hvv, ← hve, ← hvn]
      have HC6 := Lib.hid (HN.out.ch.trans hc5)
      have HN5 := Lib.hid (show Nums w5 w6 _ k q from ⟨ownsRow_ch HN.out.own hc5, HN.out.ch.trans hc5⟩)
      have HR7 := Lib.hid hr7
      clear hw5 hr6 hr7 hc5 hvv hve hvn HGET hof6 ho7 HOFF
      by_cases hz : ve = 0
      · subst hz
        have hq2 : Nums w5 w6 _ k (up q k (vv : Int)) := ⟨by rw [← numL_congr fun c hc => (up_other q (vv : Int) (show c ≠ k by omega)).symm]; exact HN5.out.own, HN5.out.ch⟩
        obtain ⟨g2, cap, w7, hr8, hn8⟩ := hq2.app (by have := HLT.out; omega)
        have HRUN := Lib.hid (hr8 (vv : Int) (up_same q k (vv : Int)).symm)
        have HG := Lib.hid (show GotQ Y w5 w7 (.slice (some ⟨g2, 0, none⟩) (k + 1) cap) (.slice A6 vn C6) (k + 1) from ⟨⟨_, hn8, fun y hy c hc => by
          by_cases w : c = k
          · subst w; rw [up_same]; exact (HB2.out y hy).2
          · rw [up_other _ _ w]; exact HQY.out y hy c (by omega)⟩, ⟨vn, _, row_via HR7.out HO7.out HN5.out.ch hn8.ch, HO7.out, HB1.out, HVN.out⟩⟩)
        clear hq2 hr8 hn8
        go_wp2_with (at_builtin; refine wpList_appI _ rfl (.tmp 66) (.tmp 68) rfl rfl _ _ (.slice (some ⟨g2, 0, none⟩) (k + 1) cap) w7 rfl rfl (by exact HRUN.out) ?_)
        go_roundw
        case rel => exact ⟨k + 1, HLT.out, by go_num, HG⟩
        case measure => have := HLT.out; simp [intOf]; omega
      · have t1 : ((ve : Int) != 0) = true := by simp; omega
        obtain ⟨w7, h6, hp⟩ := HNONE.out w6 (fun y hy => hz (HB2.out y (by rw [HYD.out]; exact hy)).1) (HC5.out.trans HC6.out)
        have H6 := Lib.hid h6
        have HP := Lib.hid hp
        clear hz h6 hp
        go_wp2_with (first
          | ((with_reducible refine wpList_isOp (.build 26 #[]) rfl ?_); refine wpList_building _ rfl 26 #[] rfl _ (by exact HBN.out _) ?_)
          | ((with_reducible refine wpList_isOp (.store 26 (.tmp 10) (.tmp 65)) rfl ?_); refine wpList_storing _ w7 rfl 26 (.tmp 10) (.tmp 65) rfl (.agg (pcC pn0 (.slice none 0 0))) ⟨H, 0, none⟩ rfl rfl (by exact H6.out.st) ?_)
          | fail)
        exact bodyPost_ret (v := .tuple #[.agg (pcC pn0 (.slice none 0 0)), .bool false]) (results_pc Tryz.results16 _ _ H pn0 _ rfl H6.out.cx) rfl HP.out
    · obtain rfl : k = 4 := by omega
      obtain ⟨A5, C5, rfl, _⟩ := id hrow
      obtain ⟨kk, ee, hrd⟩ := Cod.rd_some nn zz
      have HGB := Lib.hid (rgb_any A5 nn C5 zz kk ee wr hrow hrd (by omega))
      have HBL := Lib.hid (hback.last HYM.out hrd)
      have HQY := Lib.hid hqy
      have HNM := Lib.hid hq
      have HBZ := Lib.hid hrow.bytes
      have HRDL := Lib.hid (show bE nn zz kk ee = 0 → bL nn zz kk ee ≤ nn - Cod.resK T63 zz kk ee from fun e => by
        obtain ⟨e1, _, _, _, e5⟩ := b_ok e
        rw [e1]; exact e5)
      clear hq hqy hrow hoff hback hrd hlt hk HK hnn
      rw [show ((4 : Nat) : Int) = 4 from rfl]
      go_wp2_with fail
      refine HGB.out.mono ?_
      rintro e w6 ⟨v, yv, rfl, hvn, hc6⟩
      obtain ⟨ve, hve⟩ : ∃ v, v = bE nn zz kk ee := ⟨_, rfl⟩
      rw [← hve] at HBL HRDL
      rw [← hve]
      have HC6 := Lib.hid (HC5.out.trans (HNM.out.ch.trans hc6))
      by_cases hz : ve = 0
      case neg =>
        have t1 : ((ve : Int) != 0) = true := by simp; omega
        obtain ⟨w7, h6, hp⟩ := HNONE.out w6 (fun y hy => hz (HBL.out y (by rw [HYD.out]; exact hy)).1) HC6.out
        have H6 := Lib.hid h6
        have HP := Lib.hid hp
        clear hz h6 hp hve hvn hc6
        go_wp2_with (first
          | ((with_reducible refine wpList_isOp (.build 26 #[]) rfl ?_); refine wpList_building _ rfl 26 #[] rfl _ (by exact HBN.out _) ?_)
          | ((with_reducible refine wpList_isOp (.store 26 (.tmp 10) (.tmp 79)) rfl ?_); refine wpList_storing _ w7 rfl 26 (.tmp 10) (.tmp 79) rfl (.agg (pcC pn0 (.slice none 0 0))) ⟨H, 0, none⟩ rfl rfl (by exact H6.out.st) ?_)
          | fail)
        exact bodyPost_ret (v := .tuple #[.agg (pcC pn0 (.slice none 0 0)), .bool false]) (results_pc Tryz.results16 _ _ H pn0 _ rfl H6.out.cx) rfl HP.out
      subst hz
      obtain ⟨L, hL⟩ : ∃ L, L = rowL (bL nn zz kk ee) (fun i => zz (Cod.resK T63 zz kk ee + i)) := ⟨_, rfl⟩
      have hLl : L.length = bL nn zz kk ee := by rw [hL]; unfold rowL; simp
      rw [← hL] at HBL
      have hvL : RowN wr w6 v L.length (Cod.litZ L) := by
        rw [hLl]
        exact hvn.congr fun c hc => by rw [hL]; exact (rowL_litz _ (fun i => zz (Cod.resK T63 zz kk ee + i)) hc).symm
      have hLb : ∀ x ∈ L, x < 256 := fun x hx => by
        rw [hL] at hx
        unfold rowL at hx
        obtain ⟨c, hc, rfl⟩ := List.mem_map.1 hx
        exact HBZ.out _ (by have := HRDL.out rfl; have := List.mem_range.1 hc; omega)
      have hvw : RowN w w6 v L.length (Cod.litZ L) := hvL.low (HC1.out.trans (HC5.out.trans HNM.out.ch)).size
      obtain ⟨A8, C8, hv8⟩ := hvw.len
      obtain ⟨LN, hLN⟩ : ∃ LN, LN = L.length := ⟨_, rfl⟩
      rw [← hLN] at hv8 hvw
      subst hv8
      have HLN := Lib.hid hLN
      have HSV : Hid (SlV (.slice A8 LN C8)) := Lib.hid ⟨_, _, _, rfl⟩
      have hx3 := ((HNM.out.ch.trans hc6).block H3 (blk_lt HX5.out) (fun f => f)).trans HX5.out
      have hV := (own_intV HNM.out.own (by omega)).gr hc6
      obtain ⟨A9, C9, rfl, _⟩ := hV.len
      obtain ⟨gq, go, rfl, hcs⟩ := hV.at (by omega)
      have hq0 : w6.cell? ⟨gq, go, none⟩ = some (.int .i64 (q 0)) := hcs 0 (by omega)
      have hq1 := hcs 1 (by omega)
      have hq2 := hcs 2 (by omega)
      have hq3 := hcs 3 (by omega)
      have d3 : w6.cell? ⟨H3, 3, none⟩ = some (.int .i64 o.epoch) := blk_cell hx3
      have d4 : w6.cell? ⟨H3, 4, none⟩ = some (.int .i64 o.seq) := blk_cell hx3
      obtain ⟨H6, hH6⟩ : ∃ H6, H6 = w6.heap.size := ⟨_, rfl⟩
      obtain ⟨x, hx⟩ : ∃ x, x = pnOf o.seq o.epoch q L := ⟨_, rfl⟩
      obtain ⟨w7, hw7⟩ : ∃ w7, w7 = (w6.alloc (.cells (pcC x (.slice A8 LN C8)) 26)).drew := ⟨_, rfl⟩
      have hcw : Ch (fun _ => False) w6 w7 := by rw [hw7]; exact ((Ch.refl _ w6).alloc _ _).drew
      have hx7 : w7.heap[H6]? = some (.cells (pcC x (.slice A8 LN C8)) 26 (0, 0)) := by rw [hw7, hH6]; exact heap_alloc_new w6 _
      have hxl : x.B = L := by rw [hx]; rfl
      have HXL := Lib.hid hxl
      have HVW := Lib.hid (show RowN w w7 (.slice A8 LN C8) x.B.length (Cod.litZ x.B) by rw [hxl, ← HLN.out]; exact hvw.gr hcw)
      have HXB := Lib.hid (show ∀ c ∈ x.B, c < 256 by rw [hxl]; exact hLb)
      have HXY := Lib.hid (show ∀ y, TellsR n z vol g mir slot y → x = y from fun y hy => by
        have hyY : Y y := by rw [HYD.out]; exact hy
        have s := hy.back V
        rw [← HRB.out] at s
        rw [hx]
        exact pnOf_eq s.seq s.epoch (fun c hc => HQY.out y hyY c hc) (HBL.out y hyY).2)
      have HSEQ := Lib.hid (show x.seq % g.wal = slot by rw [hx]; exact HSL.out)
      have HX7 := Lib.hid hx7
      have HL7 := Lib.hid (load_pc hx7)
      have HC7 := Lib.hid (HC6.out.trans hcw)
      have HS := Lib.hid (r11sec_any vol g mir x (.slice A8 LN C8) w7 HVO.out ⟨HVW.out.row, HXB.out⟩)
      have HV7 := Lib.hid (HV1.out.gr (HC6.out.trans hcw))
      have HW7 := Lib.hid hw7
      rw [hx] at hw7
      unfold pcC pnOf at hw7
      simp only at hw7
      clear hvn hc6 hve hL hLl hLN hvL hLb hvw hx3 hV hcs hcw hx7 hxl hx HBL HRDL HBZ HNM HQY HGB
      go_wp2_with fail
      go_region_held3 (fun w' => w'.cell? ⟨H3, 4, none⟩ = some (.int .i64 o.seq) ∧ w'.cell? ⟨H3, 3, none⟩ = some (.int .i64 o.epoch) ∧ w'.cell? ⟨gq, go, none⟩ = some (.int .i64 (q 0)) ∧ w'.cell? ⟨gq, go + 1, none⟩ = some (.int .i64 (q 1)) ∧ w'.cell? ⟨gq, go + 2, none⟩ = some (.int .i64 (q 2)) ∧ w'.cell? ⟨gq, go + 3, none⟩ = some (.int .i64 (q 3))) (first | go_keep) (first | (fail))
      rw [← hw7, ← hH6]
      clear hw7 hH6 hq0 hq1 hq2 hq3 d3 d4
      obtain ⟨x0, x1, x2, x3⟩ := HGX1.out.gr HC7.out
      go_wp2_with (first | ((with_reducible refine wpList_isOp (.load 26 (.tmp 24)) rfl ?_); refine wpList_loading _ rfl 26 (.tmp 24) rfl (.agg (pcC x (.slice A8 LN C8))) ⟨H6, 0, none⟩ rfl (by exact HL7.out) ?_) | fail)
      refine HS.out.mono ?_
      rintro e w8 ⟨A7, C7, rfl, ho8, hc8⟩
      have HR8 := Lib.hid (ownsRow_rowV ho8 (by unfold secRN; split <;> omega) (sectR_b HXB.out _))
      have HV8 := Lib.hid (HV7.out.gr hc8)
      have HC8 := Lib.hid (HC7.out.trans hc8)
      have HX8 := Lib.hid ((hc8.block H6 (blk_lt HX7.out) (fun f => f)).trans HX7.out)
      have HVW8 := Lib.hid (HVW.out.gr hc8)
      clear ho8 hc8 x0 x1 x2 x3
      go_wp2_with fail
      refine (same_any _ _ _ _ _ _ _ _ _ HV8.out HR8.out).mono ?_
      rintro e w9 ⟨rfl, dd, hw9⟩
      have hc9 : Ch (fun _ => False) w8 w9 := by rw [hw9]; exact (Ch.refl _ w8).drewN dd
      have hc19 := HC8.out.trans hc9
      have hxH := (hc19.block H (blk_lt (o := .cells (pcC pn0 (.slice none 0 0)) 26 (0, 0)) HZ.out.cx) (fun f => f)).trans HZ.out.cx
      have HL9 := Lib.hid (load_pc ((hc9.block H6 (blk_lt HX8.out) (fun f => f)).trans HX8.out))
      obtain ⟨wn, hn⟩ := stPc pn0 hxH slV_nil
      obtain ⟨wy, hy⟩ := stPc x hxH HSV.out
      have HPN := Lib.hid (show ¬ TellsR n z vol g mir slot x → TellPostR n z vol g mir slot w (.returned (.tuple #[.agg (pcC pn0 (.slice none 0 0)), .bool false])) wn from fun q => ⟨none, _, fun y => ⟨fun q => (by cases q), fun q2 => absurd (by rw [HXY.out y q2]; exact q2) q⟩, rfl, RowN.nil _ _ _, (HC1.out.trans hc19).new (hn.ch.mono fun j _ hj => by rw [hj]; exact HHW.out)⟩)
      have HPY := Lib.hid (show TellsR n z vol g mir slot x → TellPostR n z vol g mir slot w (.returned (.tuple #[.agg (pcC x (.slice A8 LN C8)), .bool true])) wy from fun q => ⟨some x, (.slice A8 LN C8), fun y => ⟨fun q2 => by injection q2 with q2; rw [← q2]; exact q, fun q2 => by rw [HXY.out y q2]⟩, rfl, (HVW8.out.gr hc9).set hy.ch hxH (by decide), (HC1.out.trans hc19).new (hy.ch.mono fun j _ hj => by rw [hj]; exact HHW.out)⟩)
      have HN := Lib.hid hn
      have HY := Lib.hid hy
      clear hw9 hc9 hc19 hxH hn hy
      cases hs : rokB vol g mir x
      · have HE : secRE vol g mir x = 1 := by unfold secRE; rw [hs]; rfl
        have HT := Lib.hid (HPN.out fun q => by have := q.sec; rw [hs] at this; cases this)
        rw [HE]
        clear hs HE HR8
        go_wp2_with (first
          | ((with_reducible refine wpList_isOp (.build 26 #[]) rfl ?_); refine wpList_building _ rfl 26 #[] rfl _ (by exact HBN.out _) ?_)
          | ((with_reducible refine wpList_isOp (.store 26 (.tmp 10) (.tmp 115)) rfl ?_); refine wpList_storing _ wn rfl 26 (.tmp 10) (.tmp 115) rfl (.agg (pcC pn0 (.slice none 0 0))) ⟨H, 0, none⟩ rfl rfl (by exact HN.out.st) ?_)
          | fail)
        exact bodyPost_ret (v := .tuple #[.agg (pcC pn0 (.slice none 0 0)), .bool false]) (results_pc Tryz.results16 _ _ H pn0 _ rfl HN.out.cx) rfl HT.out
      · have HE : secRE vol g mir x = 0 := by unfold secRE; rw [hs]; rfl
        have HQ := Lib.hid (show secRN vol g mir x = 256 by unfold secRN; rw [hs]; rfl)
        have HSK := Lib.hid hs
        rw [HE]
        clear hs HE
        cases hq : eqB n (secRN vol g mir x) z (sectR vol g mir x)
        · have HT := Lib.hid (HPN.out fun q => by
            have := decide_eq_false_iff_not.1 hq
            exact this ⟨by rw [HQ.out, q.n], fun c hc => q.z c (by rw [q.n] at hc; exact hc)⟩)
          clear hq
          go_wp2_with (first
            | ((with_reducible refine wpList_isOp (.build 26 #[]) rfl ?_); refine wpList_building _ rfl 26 #[] rfl _ (by exact HBN.out _) ?_)
            | ((with_reducible refine wpList_isOp (.store 26 (.tmp 10) (.tmp 115)) rfl ?_); refine wpList_storing _ wn rfl 26 (.tmp 10) (.tmp 115) rfl (.agg (pcC pn0 (.slice none 0 0))) ⟨H, 0, none⟩ rfl rfl (by exact HN.out.st) ?_)
            | fail)
          exact bodyPost_ret (v := .tuple #[.agg (pcC pn0 (.slice none 0 0)), .bool false]) (results_pc Tryz.results16 _ _ H pn0 _ rfl HN.out.cx) rfl HT.out
        · have HT := Lib.hid (HPY.out (by
            obtain ⟨q1, q2⟩ := of_decide_eq_true hq
            rw [HQ.out] at q1
            exact ⟨HSK.out, q1, fun c hc => q2 c (by rw [q1]; exact hc), HSEQ.out, HXB.out⟩))
          clear hq
          go_wp2_with (first
            | ((with_reducible refine wpList_isOp (.load 26 (.tmp 24)) rfl ?_); refine wpList_loading _ rfl 26 (.tmp 24) rfl (.agg (pcC x (.slice A8 LN C8))) ⟨H6, 0, none⟩ rfl (by exact HL9.out) ?_)
            | ((with_reducible refine wpList_isOp (.store 26 (.tmp 10) (.tmp 116)) rfl ?_); refine wpList_storing _ wy rfl 26 (.tmp 10) (.tmp 116) rfl (.agg (pcC x (.slice A8 LN C8))) ⟨H, 0, none⟩ rfl rfl (by exact HY.out.st) ?_)
            | fail)
          exact bodyPost_ret (v := .tuple #[.agg (pcC x (.slice A8 LN C8)), .bool true]) (results_pc Tryz.results16 _ _ H x (.slice A8 LN C8) rfl HY.out.cx) rfl HT.out
end Go.Proofs.YteleknojohnlbaaGreat
namespace Go.Proofs.YteleknojohnlbaaGreat
open Go.RowKit
set_option linter.unusedVariables false
set_option maxRecDepth 100000
set_option linter.unusedSimpArgs false
set_option maxHeartbeats 3200000 in
theorem r11clean_any (A : Option Addr) (n C : Nat) (z : Nat → Nat) (vol adr : Int) (w : World) (h : RowV w (.slice A n C) n z) : Calls Tryz.prog 56 #[.slice A n C, .int .i64 vol, .int .i64 adr] w (Ans (.bool (cleanB n z vol adr)) w) := by
  have HV1 := Lib.hid h
  clear h
  go_enter Tryz.func56, Tryz.ntmps56
  go_wp2_with fail
  refine (ropen_any A n C z _ HV1.out).mono ?_
  rintro e w2 ⟨V, rfl, hb2, hc2⟩
  obtain ⟨o, ho⟩ : ∃ o, o = openB n z V := ⟨_, rfl⟩
  rw [← ho] at hb2
  rw [← ho]
  obtain ⟨w3, H3, hZ3⟩ := zeR w2
  obtain ⟨A', C', hoV, _⟩ := id hb2.row
  obtain ⟨w4, h4⟩ := stR (b := o) hZ3.cx ⟨_, _, _, hoV⟩
  have hc4 : Ch (fun _ => False) w2 w4 := hZ3.ch.over h4.ch (by rw [hZ3.sz]; exact Nat.le_refl _)
  have b1 : w4.cell? ⟨H3, 1, none⟩ = some (.int .i64 o.vol) := blk_cell h4.cx
  have b2 : w4.cell? ⟨H3, 2, none⟩ = some (.int .i64 o.addr) := blk_cell h4.cx
  have HC4 := Lib.hid (hc2.trans hc4)
  have HZ3 := Lib.hid hZ3
  have H4 := Lib.hid h4
  have HO := Lib.hid ho
  obtain ⟨E, hEE⟩ : ∃ E, E = openQ n z := ⟨_, rfl⟩
  have HEE := Lib.hid hEE
  rw [← hEE]
  clear hb2 hc2 hc4 hZ3 h4 hoV hEE ho
  cases hop : opensB n z
  case false =>
    have t1 : (E == 0) = false := by
      have hE : E ≠ 0 := fun q => by have := openE_zero.1 (HEE.out.symm.trans q); rw [hop] at this; cases this
      simpa using hE
    have HE := Lib.hid (clean_no (vol := vol) (adr := adr) hop)
    clear hop
    go_wp2_with (first
      | ((with_reducible refine wpList_isOp (.alloc 80) rfl ?_); refine wpList_making _ w3 rfl 80 rfl (bkC bk0) H3 (zero_bk _) (by exact HZ3.out.sz) (by exact HZ3.out.al) ?_)
      | ((with_reducible refine wpList_isOp (.store 80 (.tmp 7) (.tmp 12)) rfl ?_); refine wpList_storing _ w4 rfl 80 (.tmp 7) (.tmp 12) rfl (.agg (bkC o)) ⟨H3, 0, none⟩ rfl rfl (by exact H4.out.st) ?_)
      | fail)
    go_ret
    exact ⟨ret_bool HE.out.symm, HC4.out⟩
  obtain rfl : E = 0 := HEE.out.trans (openE_zero.2 hop)
  have HRB := Lib.hid (show o = readB V z from HO.out.trans (openB_yes hop V))
  by_cases q1 : o.vol = vol
  · have t1 : (o.vol == vol) = true := by simpa using q1
    by_cases q2 : o.addr = adr
    · have t2 : (o.addr == adr) = true := by simpa using q2
      have HE := Lib.hid (clean_yes hop (show (readB undef z).vol = vol by rw [← q1, HRB.out]; rfl) (show (readB undef z).addr = adr by rw [← q2, HRB.out]; rfl))
      clear hop q1 q2
      go_wp2_with (first
        | ((with_reducible refine wpList_isOp (.alloc 80) rfl ?_); refine wpList_making _ w3 rfl 80 rfl (bkC bk0) H3 (zero_bk _) (by exact HZ3.out.sz) (by exact HZ3.out.al) ?_)
        | ((with_reducible refine wpList_isOp (.store 80 (.tmp 7) (.tmp 12)) rfl ?_); refine wpList_storing _ w4 rfl 80 (.tmp 7) (.tmp 12) rfl (.agg (bkC o)) ⟨H3, 0, none⟩ rfl rfl (by exact H4.out.st) ?_)
        | fail)
      go_ret
      exact ⟨ret_bool HE.out.symm, HC4.out⟩
    · have t2 : (o.addr == adr) = false := by simpa using q2
      have HE := Lib.hid (clean_adr (n := n) (vol := vol) (show ¬ (readB undef z).addr = adr from fun e => q2 (by rw [HRB.out]; exact e)))
      clear hop q1 q2
      go_wp2_with (first
        | ((with_reducible refine wpList_isOp (.alloc 80) rfl ?_); refine wpList_making _ w3 rfl 80 rfl (bkC bk0) H3 (zero_bk _) (by exact HZ3.out.sz) (by exact HZ3.out.al) ?_)
        | ((with_reducible refine wpList_isOp (.store 80 (.tmp 7) (.tmp 12)) rfl ?_); refine wpList_storing _ w4 rfl 80 (.tmp 7) (.tmp 12) rfl (.agg (bkC o)) ⟨H3, 0, none⟩ rfl rfl (by exact H4.out.st) ?_)
        | fail)
      go_ret
      exact ⟨ret_bool HE.out.symm, HC4.out⟩
  · have t1 : (o.vol == vol) = false := by simpa using q1
    have HE := Lib.hid (clean_vol (n := n) (adr := adr) (show ¬ (readB undef z).vol = vol from fun e => q1 (by rw [HRB.out]; exact e)))
    clear hop q1
    go_wp2_with (first
      | ((with_reducible refine wpList_isOp (.alloc 80) rfl ?_); refine wpList_making _ w3 rfl 80 rfl (bkC bk0) H3 (zero_bk _) (by exact HZ3.out.sz) (by exact HZ3.out.al) ?_)
      | ((with_reducible refine wpList_isOp (.store 80 (.tmp 7) (.tmp 12)) rfl ?_); refine wpList_storing _ w4 rfl 80 (.tmp 7) (.tmp 12) rfl (.agg (bkC o)) ⟨H3, 0, none⟩ rfl rfl (by exact H4.out.st) ?_)
      | fail)
    go_ret
    exact ⟨ret_bool HE.out.symm, HC4.out⟩
theorem tl_cells {w : World} {H : Nat} {t : Tl} {ep : Int} {v : Value} (h : w.heap[H]? = some (.cells (tlC t ep v) 40 (0, 0))) : w.cell? ⟨H, 0, none⟩ = some v ∧ w.cell? ⟨H, 1, none⟩ = some (.int .i64 t.next) ∧ w.cell? ⟨H, 2, none⟩ = some (.int .i64 t.chain) ∧ w.cell? ⟨H, 3, none⟩ = some (.int .i64 ep) :=
  ⟨blk_cell h, blk_cell h, blk_cell h, blk_cell h⟩
theorem bv_cell {w : World} {A : Option Addr} {C : Nat} {M : List Bv} (h : RwV kdB elB w A C M) {i : Nat} {x : Bv} (hx : M[i]? = some x) : ∃ b o A' C', A = some ⟨b, o, none⟩ ∧ w.cell? ⟨b, o + i, none⟩ = some (.slice A' x.B.length C') ∧ RowV w (.slice A' x.B.length C') x.B.length (Cod.litZ x.B) := by
  obtain ⟨b, o, hA, hc⟩ := h.at' (by have := (List.getElem?_eq_some_iff.1 hx).1; omega)
  have hr := (h.rows x (List.mem_of_getElem? hx)).1
  obtain ⟨A', C', e, _⟩ := id hr
  have c2 := hc i x hx 0 x.V rfl
  rw [show elB.V x = x.V from rfl, show elB.B x = x.B from rfl] at e hr
  rw [e] at c2 hr
  refine ⟨b, o, A', C', hA, ?_, hr⟩
  have q : w.cell? ⟨b, o + i * 1 + 0, none⟩ = some (.slice A' x.B.length C') := c2
  rwa [Nat.mul_one, Nat.add_zero] at q
set_option maxHeartbeats 6400000 in
theorem r11same_any (t : Tl) (ep : Int) (M M2 : List Bv) (A A2 : Option Addr) (C C2 : Nat) (w : World) (h1 : M.map Bv.B = t.txs) (h2 : M2.map Bv.B = t.txs) (r1 : RwV kdB elB w A C M) (r2 : RwV kdB elB w A2 C2 M2) (hl : M.length ≤ 1000) :
    Calls Tryz.prog 23 #[.agg (tlC t ep (.slice A M.length C)), .agg (tlC t ep (.slice A2 M2.length C2))] w (Ans (.bool true) w) := by
  have hlen : M2.length = M.length := by
    have e := h1.trans h2.symm
    have := congrArg List.length e
    simpa using this.symm
  have HB := Lib.hid (show ∀ (i : Nat) (x y : Bv), M[i]? = some x → M2[i]? = some y → y.B = x.B from fun i x y hx hy => by
    have e1 : (M.map Bv.B)[i]? = some x.B := by rw [List.getElem?_map, hx]; rfl
    have e2 : (M2.map Bv.B)[i]? = some y.B := by rw [List.getElem?_map, hy]; rfl
    rw [h1] at e1
    rw [h2] at e2
    exact Option.some.inj (e2.symm.trans e1))
  have HLE := Lib.hid hlen
  obtain ⟨n, hn⟩ : ∃ n, n = M.length := ⟨_, rfl⟩
  have HN := Lib.hid hn
  rw [hlen, ← hn]
  rw [← hn] at hl
  obtain ⟨w1, H, hR⟩ := boxR w (tlC t ep (.slice A n C)) 40
  obtain ⟨w2, H2, hR2⟩ := boxR w1 (tlC t ep (.slice A2 n C2)) 40
  have hx1 := (hR2.ch.block H (blk_lt hR.cx) (fun f => f)).trans hR.cx
  obtain ⟨x0, x1, x2, x3⟩ := tl_cells hx1
  obtain ⟨y0, y1, y2, y3⟩ := tl_cells hR2.cx
  have HX1 := Lib.hid hx1
  have HX2 := Lib.hid hR2.cx
  have HR := Lib.hid hR
  have HR2 := Lib.hid hR2
  have HV := Lib.hid ((r1.gr hR.ch).gr hR2.ch)
  have HV2 := Lib.hid ((r2.gr hR.ch).gr hR2.ch)
  clear hR hR2 hx1 h1 h2 r1 r2 hlen hn
  go_enter Tryz.func23, Tryz.ntmps23
  go_wp2_with (first | ((with_reducible refine wpList_isOp (.box 40 (.tmp 0)) rfl ?_); refine wpList_boxing _ w1 rfl 40 (.tmp 0) rfl (tlC t ep (.slice A n C)) H rfl (by exact HR.out.sz) (by exact HR.out.al) ?_) | ((with_reducible refine wpList_isOp (.box 40 (.tmp 1)) rfl ?_); refine wpList_boxing _ w2 rfl 40 (.tmp 1) rfl (tlC t ep (.slice A2 n C2)) H2 rfl (by exact HR2.out.sz) (by exact HR2.out.al) ?_) | fail)
  clear x0 x1 x2 x3 y0 y1 y2 y3
  go_loopw [5, 6, 42, 43, 44, 45, 46, 47, 48, 49, 50, 51, 52] (fun i _ _ _ _ _ _ _ _ _ _ _ _ wr => ∃ k j : Nat, k ≤ n ∧ i = .int .i64 k ∧ wr = w2.drewN j) (fun i _ _ _ _ _ _ _ _ _ _ _ _ _ => n - (intOf i).toNat)
  case atStart => exact ⟨0, 0, Nat.zero_le _, rfl, rfl⟩
  case round =>
    obtain ⟨k, j, hk, rfl, hwr⟩ := hrel
    have hcj : Ch (fun _ => False) w2 wr := by rw [hwr]; exact (Ch.refl _ w2).drewN j
    have x0 : wr.cell? ⟨H, 0, none⟩ = some (.slice A n C) := (tl_cells ((hcj.block H (blk_lt HX1.out) (fun f => f)).trans HX1.out)).1
    have HCJ := Lib.hid hcj
    have HWR := Lib.hid hwr
    clear hwr hcj
    by_cases hlt : k < n
    · have i1 : (0 : Int) ≤ (k : Int) := Int.natCast_nonneg _
      have i2 : (k : Int) < (n : Int) := by omega
      have y0 : wr.cell? ⟨H2, 0, none⟩ = some (.slice A2 n C2) := (tl_cells ((HCJ.out.block H2 (blk_lt HX2.out) (fun f => f)).trans HX2.out)).1
      obtain ⟨x, hx⟩ : ∃ x, M[k]? = some x := ⟨M[k]'(by rw [← HN.out]; omega), List.getElem?_eq_getElem _⟩
      obtain ⟨y, hy⟩ : ∃ y, M2[k]? = some y := ⟨M2[k]'(by rw [HLE.out, ← HN.out]; omega), List.getElem?_eq_getElem _⟩
      have hyx := HB.out k x y hx hy
      obtain ⟨b, o, A', C', rfl, c1, hr1⟩ := bv_cell (HV.out.gr HCJ.out) hx
      obtain ⟨b2, o2, A3, C3, rfl, c2, hr2⟩ := bv_cell (HV2.out.gr HCJ.out) hy
      rw [hyx] at c2 hr2
      obtain ⟨nb, hnb⟩ : ∃ nb, nb = x.B.length := ⟨_, rfl⟩
      rw [← hnb] at c1 c2
      have HSA := Lib.hid (fun i => same_any A' A3 nb nb C' C3 (Cod.litZ x.B) (Cod.litZ x.B) (wr.drewN i) (by rw [hnb]; exact hr1.drewN i) (by rw [hnb]; exact hr2.drewN i))
      rw [eqB_yes rfl (fun _ _ => rfl)] at HSA
      clear hx hy hyx hr1 hr2 hnb
      go_wp2_with fail
      go_quiet (first
        | (go_at_call 14; exact Qu.at (HSA.out _)))
      go_wp2_with fail
      go_roundw
      case rel => exact ⟨k + 1, j + nq, by omega, by go_num, by rw [HWR.out, World.drewN_drewN]⟩
      case measure => simp [intOf]; omega
    · obtain rfl : k = n := by omega
      go_wp2
      go_ret
      exact ⟨rfl, (HR.out.ch.trans HR2.out.ch).trans HCJ.out⟩
end Go.Proofs.YteleknojohnlbaaGreat
