/-
  SupFew, walked.
-/
import Derived.Test.YtjdknebifcdicaaMg40
import Derived.Test.YtjdknebifcdicaaMg15
import Derived.StillTailTactics
namespace Go.Proofs.Ytjdknebifcdicaa
open Go.RowKit
set_option linter.unusedVariables false
set_option maxRecDepth 100000
attribute [local go_sem] guard_su

theorem few_none {x : Sp} {i : Int} {y : Nat → Nat} {a : Nat} (hy : Bytes 4 y) (ha : a ≤ 252) (hf : fewB y 4 = true) {o : Option Sp} (ht : TellS 256 (fewZ (sectS x i) y a 4) i o) : o = none := by
  refine ht.none fun z hz => ?_
  have hw := few_whole (n := 252) (z := secZ (supB x i undef)) (secZ_b (b := supB x i undef) (fun c _ => Cod.litZ_b (prefL_b x 9) c) 252) hy ha
  rw [hf] at hw
  have h2 : Crc.wholeB 256 (fewZ (sectS x i) y a 4) = true := opens_whole hz.opens
  have h3 : Crc.wholeB 256 (fewZ (sectS x i) y a 4) = false := hw
  rw [h3] at h2
  cases h2
theorem few_same {z y : Nat → Nat} (a : Nat) (hf : fewB y 4 = false) (c : Nat) : fewZ z y a 4 c = z c := by
  obtain ⟨h0, h1, h2, h3⟩ := (fewB_four y).1 hf
  unfold fewZ
  split
  · have : y (c - a) = 0 := by
      have hc : c - a < 4 := by omega
      match c - a, hc with
      | 0, _ => exact h0
      | 1, _ => exact h1
      | 2, _ => exact h2
      | 3, _ => exact h3
    rw [this, Nat.xor_zero]
  · rfl
theorem few_some {x : Sp} {i : Int} {y : Nat → Nat} {a : Nat} (hs : sokB x i = true) (hf : fewB y 4 = false) {o : Option Sp} (ht : TellS 256 (fewZ (sectS x i) y a 4) i o) : o = some x :=
  (ht x).2 ⟨hs, rfl, fun c _ => few_same a hf c⟩
set_option maxHeartbeats 3200000 in
theorem supFew_off (x : Sp) (i t : Int) (w : World) {y : Nat → Nat} (ht : mayS x = true → 0 ≤ i → i ≤ 3 → t < 0 ∨ 252 < t) : Calls Try.prog 7 #[.agg (supC x), .int .i64 i, .int .i64 t, .agg (arrV 4 y)] w (Told w) := by
  have HTT := Lib.hid ht
  clear ht
  obtain ⟨w1, H, hR⟩ := boxR w (supC x) 25
  obtain ⟨wk, hwk⟩ : ∃ wk, w1.alloc (.cells (arrV 4 y) 45) = wk := ⟨_, rfl⟩
  obtain ⟨KA, hKA⟩ : ∃ KA, w1.heap.size = KA := ⟨_, rfl⟩
  have hck : Ch (fun _ => False) w1 wk := by rw [← hwk]; exact (Ch.refl _ w1).alloc _ _
  have HX := Lib.hid ((su_x hR.cx).gr hck)
  have HC := Lib.hid (hR.ch.trans hck)
  have HR := Lib.hid hR
  have HKW := Lib.hid hwk
  have HKZ := Lib.hid hKA
  clear hR hck hwk hKA
  go_enter Try.func7, Try.ntmps7
  go_wp2_with (first
    | ((with_reducible refine wpList_isOp (.box 25 (.tmp 0)) rfl ?_); refine wpList_boxing _ w1 rfl 25 (.tmp 0) rfl (supC x) H rfl (by exact HR.out.sz) (by exact HR.out.al) ?_)
    | ((with_reducible refine wpList_isOp (.box 45 (.tmp 3)) rfl ?_); refine wpList_boxing _ wk rfl 45 (.tmp 3) rfl (arrV 4 y) KA rfl (by exact HKZ.out) (by exact HKW.out) ?_))
  refine (awake_any _).mono ?_
  rintro e w2 ⟨rfl, hc2⟩
  have HC2 := Lib.hid (HC.out.trans hc2)
  obtain ⟨x0, x1, x2, x3, x4, x5, x6, x7, x8, x9, x10, x11⟩ := HX.out.gr hc2
  clear hc2
  go_wp2_with fail
  refine (smay_any x _).mono ?_
  rintro e w3 ⟨rfl, hc3⟩
  have HC3 := Lib.hid (HC2.out.trans hc3)
  clear hc3 x0 x1 x2 x3 x4 x5 x6 x7 x8 x9 x10 x11
  cases hm : mayS x
  · go_wp2
    go_ret
    exact ⟨rfl, HC3.out⟩
  by_cases h0 : i < 0
  · go_wp2
    go_ret
    exact ⟨rfl, HC3.out⟩
  by_cases h1 : 3 < i
  · go_wp2
    go_ret
    exact ⟨rfl, HC3.out⟩
  by_cases h2 : t < 0
  · go_wp2
    go_ret
    exact ⟨rfl, HC3.out⟩
  · have h3 : 252 < t := by
      rcases HTT.out hm (by omega) (by omega) with h | h
      · exact absurd h h2
      · exact h
    go_wp2
    go_ret
    exact ⟨rfl, HC3.out⟩
#print axioms supFew_off
set_option maxHeartbeats 6400000 in
theorem supFew_at (x : Sp) (j a : Nat) (w : World) {y : Nat → Nat} (hm : mayS x = true) (hj : j ≤ 3) (hy : Bytes 4 y) (ha : a ≤ 252) : Calls Try.prog 7 #[.agg (supC x), .int .i64 (j : Int), .int .i64 (a : Int), .agg (arrV 4 y)] w (Told w) := by
  have hs : sokB x (j : Int) = true := by rw [sok_at (by omega)]; exact hm
  have HM := Lib.hid hm
  have HNO := Lib.hid (show fewB y 4 = true → ∀ o, TellS 256 (fewZ (sectS x (j : Int)) y a 4) (j : Int) o → o = none from fun q o ho => few_none hy ha q ho)
  have HYES := Lib.hid (show fewB y 4 = false → ∀ o, TellS 256 (fewZ (sectS x (j : Int)) y a 4) (j : Int) o → o = some x from fun q o ho => few_some hs q ho)
  have HQ := Lib.hid (show secN x (j : Int) = 256 ∧ secE x (j : Int) = 0 by unfold secN secE; rw [hs]; exact ⟨rfl, rfl⟩)
  clear hm hs
  obtain ⟨w1, H, hR⟩ := boxR w (supC x) 25
  obtain ⟨wg, hwk⟩ : ∃ wk, w1.alloc (.cells (arrV 4 y) 45) = wk := ⟨_, rfl⟩
  obtain ⟨KA, hKA⟩ : ∃ KA, w1.heap.size = KA := ⟨_, rfl⟩
  have hck : Ch (fun _ => False) w1 wg := by rw [← hwk]; exact (Ch.refl _ w1).alloc _ _
  have hkx : wg.heap[KA]? = some (.cells (arrV 4 y) 45 (0, 0)) := by rw [← hwk, ← hKA]; exact heap_alloc_new w1 _
  have HXG := Lib.hid ((hck.block H (blk_lt hR.cx) (fun f => f)).trans hR.cx)
  have HT := Lib.hid (show ∀ j, j < 4 → wg.cell? ⟨KA, j, none⟩ = some (.int .u8 (y j : Int)) from fun j hj => by
    rw [blk_cell hkx]
    exact arr_at hj)
  have HCG := Lib.hid (hR.ch.trans hck)
  have HR := Lib.hid hR
  have HKW := Lib.hid hwk
  have HKZ := Lib.hid hKA
  have HYB := Lib.hid hy
  clear hR hck hkx hwk hKA hy
  go_enter Try.func7, Try.ntmps7
  go_wp2_with (first
    | ((with_reducible refine wpList_isOp (.box 25 (.tmp 0)) rfl ?_); refine wpList_boxing _ w1 rfl 25 (.tmp 0) rfl (supC x) H rfl (by exact HR.out.sz) (by exact HR.out.al) ?_)
    | ((with_reducible refine wpList_isOp (.box 45 (.tmp 3)) rfl ?_); refine wpList_boxing _ wg rfl 45 (.tmp 3) rfl (arrV 4 y) KA rfl (by exact HKZ.out) (by exact HKW.out) ?_))
  refine (awake_any _).mono ?_
  rintro e w2 ⟨rfl, hc2⟩
  have HX2 := Lib.hid ((hc2.block H (blk_lt (o := .cells (supC x) 25 (0, 0)) HXG.out) (fun f => f)).trans HXG.out)
  have HCG2 := Lib.hid hc2
  obtain ⟨x0, x1, x2, x3, x4, x5, x6, x7, x8, x9, x10, x11⟩ := su_x HX2.out
  clear hc2
  go_wp2_with fail
  refine (smay_any x _).mono ?_
  rintro e w3 ⟨rfl, hc3⟩
  have HX3 := Lib.hid ((hc3.block H (blk_lt (o := .cells (supC x) 25 (0, 0)) HX2.out) (fun f => f)).trans HX2.out)
  have HL3 := Lib.hid (load_su HX3.out)
  have HCG3 := Lib.hid (HCG2.out.trans hc3)
  clear hc3 x0 x1 x2 x3 x4 x5 x6 x7 x8 x9 x10 x11
  rw [HM.out]
  have t1 : decide ((a : Int) < 0) = false := by simp
  have t2 : decide ((252 : Int) < (a : Int)) = false := by simp; omega
  have t3 : decide ((j : Int) < 0) = false := by simp
  have t4 : decide ((3 : Int) < (j : Int)) = false := by simp; omega
  have HS := Lib.hid (ssector_any x (j : Int) w3)
  go_wp2_with (first | ((with_reducible refine wpList_isOp (.load 25 (.tmp 4)) rfl ?_); refine wpList_loading _ rfl 25 (.tmp 4) rfl (.agg (supC x)) ⟨H, 0, none⟩ rfl (by exact HL3.out) ?_) | fail)
  refine HS.out.mono ?_
  rintro e w4 ⟨A4, C4, rfl, ho4, hc4⟩
  rw [HQ.out.1] at ho4
  rw [HQ.out.1, HQ.out.2]
  obtain ⟨g, Cg, e4, hCg⟩ := owns_some ho4 (by omega)
  injection e4 with e4 _ e5
  subst e4
  subst e5
  have HSB := Lib.hid (show Bytes 256 (sectS x (j : Int)) from sectS_b 256)
  have HR3 := Lib.hid (show FewRel wg g 256 C4 (sectS x (j : Int)) y a 0 w4 from ⟨by
    rw [bytesL_congr fun c _ => fewZ_none (sectS x (j : Int)) y a c]
    exact ownsRow_low ho4 HCG3.out.size, HCG3.out.trans hc4⟩)
  clear ho4 hc4 hCg t1 t2 t3 t4 HS
  go_wp2_with fail
  go_loopw [12, 13] (fun ch i wr => ∃ k : Nat, k ≤ 4 ∧ i = .int .i64 k ∧ ch = .bool (fewB y k) ∧ Hid (FewRel wg g 256 C4 (sectS x (j : Int)) y a k wr)) (fun _ i _ => 4 - (intOf i).toNat)
  case atStart => exact ⟨0, Nat.zero_le _, rfl, rfl, HR3⟩
  case round =>
    obtain ⟨k, hk, rfl, rfl, HK⟩ := hrel
    by_cases hlt : k < 4
    · have tk : decide ((k : Int) < 4) = true := by simp; omega
      have c1 := HK.out.ch.cell (HT.out k hlt) (fun f => f)
      have hx : sectS x (j : Int) (a + k) < 256 := HSB.out _ (by omega)
      have hy := HYB.out k hlt
      have c2 := World.ownsRow.cellAt HK.out.own (a + k) (by omega)
      have f2 := World.ownsRow.frozenAt HK.out.own (a + k)
      rw [bytesL_get (by omega), fewZ_at] at c2
      have HXA := Lib.hid (xor_at hx hy)
      have HN0 := Lib.hid HK.out.step
      rw [← HXA.out] at HN0
      obtain ⟨J, hJ⟩ : ∃ J, J = a + k := ⟨_, rfl⟩
      have iw : IntKind.i64.wrap ((a : Int) + (k : Int)) = (J : Int) := by
        rw [show (a : Int) + (k : Int) = (J : Int) by omega]
        exact wrap_small (by omega) (by omega)
      have i1 : (0 : Int) ≤ (J : Int) := by omega
      have i2 : (J : Int) < 256 := by omega
      have i3 : (0 : Int) ≤ (k : Int) := by omega
      have i4 : (k : Int) < 4 := by omega
      rw [← hJ] at c2 f2 HN0 hx
      have c3 := HN0.out.ch.cell (HT.out k hlt) (fun f => f)
      have HN := Lib.hid HN0.out.drew
      by_cases q : fewB y k = true
      · have HQ2 := Lib.hid (show fewB y (k + 1) = true by show (fewB y k || (y k != 0)) = true; rw [q]; rfl)
        rw [q]
        clear hx hy q hJ HN0
        go_wp2
        go_still_tail 15, (by kernel_rfl)
        change wpList _ _ _ _ _ wr.drew
        go_wp2
        go_roundw
        case rel => first | exact ⟨k + 1, by omega, by go_num, by rw [HQ2.out], HN⟩ | ((repeat apply Exists.intro); exact ⟨⟨k + 1, by omega, (show Value.int .i64 ((k : Int) + 1) = .int .i64 ((k + 1 : Nat) : Int) by go_num), congrArg Value.bool HQ2.out.symm, HN⟩, rfl⟩)
        case measure => simp [intOf]; omega
      · have hq : fewB y k = false := by simpa using q
        rw [hq]
        by_cases q2 : y k = 0
        · have HQ2 := Lib.hid (show fewB y (k + 1) = false by show (fewB y k || (y k != 0)) = false; rw [hq, q2]; rfl)
          have tq : ((y k : Int) != 0) = false := by simp [q2]
          clear hx hy q hq q2 hJ HN0
          go_wp2
          go_still_tail 15, (by kernel_rfl)
          change wpList _ _ _ _ _ wr.drew
          go_wp2
          go_roundw
          case rel => first | exact ⟨k + 1, by omega, by go_num, by rw [HQ2.out], HN⟩ | ((repeat apply Exists.intro); exact ⟨⟨k + 1, by omega, (show Value.int .i64 ((k : Int) + 1) = .int .i64 ((k + 1 : Nat) : Int) by go_num), congrArg Value.bool HQ2.out.symm, HN⟩, rfl⟩)
          case measure => simp [intOf]; omega
        · have HQ2 := Lib.hid (show fewB y (k + 1) = true by show (fewB y k || (y k != 0)) = true; rw [hq]; simpa using q2)
          have tq : ((y k : Int) != 0) = true := by simp; omega
          clear hx hy q hq q2 hJ HN0
          go_wp2
          go_still_tail 15, (by kernel_rfl)
          change wpList _ _ _ _ _ wr.drew
          go_wp2
          go_roundw
          case rel => first | exact ⟨k + 1, by omega, by go_num, by rw [HQ2.out], HN⟩ | ((repeat apply Exists.intro); exact ⟨⟨k + 1, by omega, (show Value.int .i64 ((k : Int) + 1) = .int .i64 ((k + 1 : Nat) : Int) by go_num), congrArg Value.bool HQ2.out.symm, HN⟩, rfl⟩)
          case measure => simp [intOf]; omega
    · obtain rfl : k = 4 := by omega
      have HRW := Lib.hid (ownsRow_rowV HK.out.own (by omega) (fewZ_b HSB.out HYB.out (Nat.le_refl 4)))
      have HCK := Lib.hid (HCG.out.trans HK.out.ch)
      have HXK := Lib.hid ((HK.out.ch.block H (blk_lt (o := .cells (supC x) 25 (0, 0)) HXG.out) (fun f => f)).trans HXG.out)
      have HT2 := Lib.hid (stold_any (some ⟨g, 0, none⟩) 256 C4 _ (j : Int) wr HRW.out)
      obtain ⟨q, hq⟩ : ∃ q, q = fewB y 4 := ⟨_, rfl⟩
      have HQQ := Lib.hid hq
      rw [← hq]
      clear hq hlt hk
      rw [show ((4 : Nat) : Int) = 4 from rfl]
      go_wp2_with fail
      refine HT2.out.mono ?_
      rintro e w5 ⟨o, ho, rfl, hc5⟩
      cases q
      · have e1 := HYES.out HQQ.out.symm o ho
        rw [e1, show optS (some x) = x from rfl, show (some x).isSome = true from rfl]
        obtain ⟨wz, w6, H6, hV6⟩ := varS x w5
        have HC6 := Lib.hid ((HCK.out.trans hc5).trans hV6.ch)
        obtain ⟨x0, x1, x2, x3, x4, x5, x6, x7, x8, x9, x10, x11⟩ := (su_x HXK.out).gr (hc5.trans hV6.ch)
        obtain ⟨y0, y1, y2, y3, y4, y5, y6, y7, y8, y9, y10, y11⟩ := su_x hV6.cx
        have HV6 := Lib.hid hV6
        clear ho e1 hc5 hV6
        go_wp2_with (first
          | ((with_reducible refine wpList_isOp (.alloc 25) rfl ?_); refine wpList_making _ wz rfl 25 rfl (supC sp0) H6 (zero_su _) (by exact HV6.out.sz) (by exact HV6.out.al) ?_)
          | ((with_reducible refine wpList_isOp (.store 25 (.tmp 14) (.tmp 84)) rfl ?_); refine wpList_storing _ w6 rfl 25 (.tmp 14) (.tmp 84) rfl (.agg (supC x)) ⟨H6, 0, none⟩ rfl rfl (by exact HV6.out.st) ?_)
          | fail)
        go_ret
        exact ⟨rfl, HC6.out⟩
      · have e1 := HNO.out HQQ.out.symm o ho
        rw [e1, show optS none = sp0 from rfl, show (none : Option Sp).isSome = false from rfl]
        obtain ⟨wz, w6, H6, hV6⟩ := varS sp0 w5
        have HC6 := Lib.hid ((HCK.out.trans hc5).trans hV6.ch)
        have HV6 := Lib.hid hV6
        clear ho e1 hc5 hV6
        go_wp2_with (first
          | ((with_reducible refine wpList_isOp (.alloc 25) rfl ?_); refine wpList_making _ wz rfl 25 rfl (supC sp0) H6 (zero_su _) (by exact HV6.out.sz) (by exact HV6.out.al) ?_)
          | ((with_reducible refine wpList_isOp (.store 25 (.tmp 14) (.tmp 84)) rfl ?_); refine wpList_storing _ w6 rfl 25 (.tmp 14) (.tmp 84) rfl (.agg (supC sp0)) ⟨H6, 0, none⟩ rfl rfl (by exact HV6.out.st) ?_)
          | fail)
        go_ret
        exact ⟨rfl, HC6.out⟩
#print axioms supFew_at
theorem supFew_of (x : Sp) (i t : Int) (vb : Value) (w : World) {y : Nat → Nat} (hi : -9223372036854775808 ≤ i ∧ i ≤ 9223372036854775807) (ht : -9223372036854775808 ≤ t ∧ t ≤ 9223372036854775807) (hv : vb = .agg (arrV 4 y)) (hy : Bytes 4 y) : Calls Try.prog 7 #[.agg (supC x), .int .i64 i, .int .i64 t, vb] w (Told w) := by
  subst hv
  by_cases h : mayS x = true ∧ 0 ≤ i ∧ i ≤ 3 ∧ 0 ≤ t ∧ t ≤ 252
  · obtain ⟨hm, i1, i2, t1, t2⟩ := h
    obtain ⟨j, rfl⟩ : ∃ j : Nat, i = (j : Int) := ⟨i.toNat, by omega⟩
    obtain ⟨a, rfl⟩ : ∃ a : Nat, t = (a : Int) := ⟨t.toNat, by omega⟩
    exact supFew_at x j a w hm (by omega) hy (by omega)
  · exact supFew_off x i t w fun hm i1 i2 => by
      by_cases q : 0 ≤ t ∧ t ≤ 252
      · exact absurd ⟨hm, i1, i2, q.1, q.2⟩ h
      · omega
#print axioms supFew_of
end Go.Proofs.Ytjdknebifcdicaa
