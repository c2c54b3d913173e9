/-
  RsBack, walked.
-/
import Derived.Test.YtlgdajmidcdiaaaRsL0
namespace Go.Proofs.Ytlgdajmidcdiaaa
open Go.RowKit
set_option linter.unusedVariables false

set_option maxHeartbeats 1600000 in
set_option maxRecDepth 100000 in
theorem rsBack_short (va vb : Value) (n : Nat) (L : Nat → Nat) (X : Nat → Nat → Nat) (m : Int) (w : World) (ha : MatV w va n L X) (h : ¬ (lightB n L = true ∧ mayB n L = true ∧ 0 ≤ m ∧ m ≤ 20)) : Calls Try.prog 5 #[va, .int .i64 m, vb] w (Told w) := by
  obtain ⟨A, Ca, rfl, na, _⟩ := id ha
  have HA := Lib.hid ha
  have HH := Lib.hid h
  clear ha h
  go_enter Try.func5, Try.ntmps5
  go_wp2_with fail
  refine (awake_any _).mono ?_
  rintro e w1 ⟨rfl, hch1⟩
  have HA1 := Lib.hid (HA.out.gr hch1)
  have HC1 := Lib.hid hch1
  clear hch1
  go_wp2_with fail
  refine (light_any _ n L X _ HA1.out).mono ?_
  rintro e w2 ⟨rfl, rfl⟩
  go_wp2_with fail
  refine (rmay_any _ n L X _ HA1.out).mono ?_
  rintro e w3 ⟨rfl, d3, rfl⟩
  cases f1 : lightB n L with
  | false =>
    go_wp2
    go_ret
    exact ⟨rfl, HC1.out.drewN _⟩
  | true =>
  cases f2 : mayB n L with
  | false =>
    go_wp2
    go_ret
    exact ⟨rfl, HC1.out.drewN _⟩
  | true =>
  by_cases h3 : 0 ≤ m
  case neg =>
    have t3 : decide (m < 0) = true := by simp; omega
    go_wp2
    go_ret
    exact ⟨rfl, HC1.out.drewN _⟩
  have t3 : decide (m < 0) = false := by simp; omega
  have t4 : decide (20 < m) = true := by
    have := HH.out
    simp
    by_cases q : m ≤ 20
    · exact absurd ⟨f1, f2, h3, q⟩ this
    · omega
  go_wp2
  go_ret
  exact ⟨rfl, HC1.out.drewN _⟩
/-- What the loop keeps: shares of which some are nil. -/
def BackAt (w0 wr : World) (v : Value) (k n nb : Nat) (z : Nat → Bool) (l : Nat) (X : Nat → Nat → Nat) : Prop := Ch (fun _ => False) w0 wr ∧ BldL w0.heap.size 0 wr v k (lostL nb z l) (sharesZ n X)
set_option maxHeartbeats 3200000 in
set_option maxRecDepth 100000 in
theorem rsBack_main (b o C n m : Nat) (L : Nat → Nat) (X : Nat → Nat → Nat) (hX : AllB X) (Ab : Option Addr) (nb Cb : Nat) (z : Nat → Bool) (w : World) (ha : MatV w (.slice (some ⟨b, o, none⟩) n C) n L X) (hz : BitsV w (.slice Ab nb Cb) nb z) (f1 : lightB n L = true) (f2 : mayB n L = true) (hm : m ≤ 20) :
    Calls Try.prog 5 #[.slice (some ⟨b, o, none⟩) n C, .int .i64 (m : Int), .slice Ab nb Cb] w (Told w) := by
  obtain ⟨n1, _, l1, l2, hL⟩ := mayB_true f2
  obtain ⟨n20, hl40⟩ := lightB_true f1
  obtain ⟨Ab', Cb', eb, hnb, hzc⟩ := hz
  injection eb with eb1 eb2 eb3
  subst eb1
  have HZ := Lib.hid hzc
  have HA := Lib.hid ha
  have HX := Lib.hid hX
  have F1 := Lib.hid f1
  have F2 := Lib.hid f2
  have t3 : decide ((m : Int) < 0) = false := by simp
  have t4 : decide ((20 : Int) < (m : Int)) = false := by simp; omega
  have t5 : ((n : Int) + (m : Int) != (n : Int) + (m : Int)) = false := by simp
  obtain ⟨l, hl⟩ : ∃ l, l = L 0 := ⟨_, rfl⟩
  have HLL := Lib.hid hl
  rw [← hl] at l1 l2
  obtain ⟨i0, hi, hz0, hz1, hz2⟩ := info_parts Try.info33
  clear ha hX f1 f2 hL hl40 hzc eb2 eb3 hl
  go_enter Try.func5, Try.ntmps5
  go_wp2_with fail
  refine (awake_any _).mono ?_
  rintro e w1 ⟨rfl, hch1⟩
  have HA1 := Lib.hid (HA.out.gr hch1)
  have HC1 := Lib.hid hch1
  clear hch1
  go_wp2_with fail
  refine (light_any _ n L X _ HA1.out).mono ?_
  rintro e w2 ⟨rfl, rfl⟩
  rw [F1.out]
  go_wp2_with fail
  refine (rmay_any _ n L X _ HA1.out).mono ?_
  rintro e w3 ⟨rfl, d3, rfl⟩
  rw [F2.out]
  go_wp2_with fail
  refine (encode_new _ n m L X _ (HA1.out.drewN _) F2.out (by omega)).mono ?_
  rintro e w2 ⟨u, rfl, hB, hch2⟩
  have hC2 : Ch (fun _ => False) w w2 := (HC1.out.drewN _).trans hch2
  obtain ⟨v1, w3, v2, w4, hr1, hr2, hB2, hch4⟩ := all_at HX.out (HA.out.gr hC2) F2.out hB (by omega)
  rw [← HLL.out] at hB2
  obtain ⟨g, Cg, rfl, hrows⟩ := all_rows hB2 (by omega)
  have HR1 := Lib.hid hr1
  have HR2 := Lib.hid hr2
  have HAL := Lib.hid (hB2.mat (by omega))
  have HRW := Lib.hid hrows
  have HC4 := Lib.hid (hC2.trans hch4)
  clear hB hch2 hC2 hr1 hr2 hB2 hch4 hrows
  go_wp2_with (first | (at_builtin; refine wpList_rows_of _ rfl (.const (.slice none 0 0)) (.tmp 49) rfl rfl (.slice none 0 0) (.slice (some ⟨b, o, none⟩) n C) v1 w3 rfl rfl HR1.out ?_) | (at_builtin; refine wpList_rows_of _ rfl (.tmp 50) (.tmp 51) rfl rfl v1 u (.slice (some ⟨g, 0, none⟩) (n + m) Cg) w4 rfl rfl HR2.out ?_))
  clear t3 t4 t5 HR1 HR2 F1
  go_loopw [13, 14, 15] (fun v s t wr => ∃ k : Nat, k ≤ n + m ∧ t = .int .i64 k ∧ s = .int .i64 ((idx (lostL nb z l) k).length : Int) ∧ Hid (BackAt w4 wr v k n nb z l X)) (fun _ _ t _ => n + m - (intOf t).toNat)
  case atStart => exact ⟨0, Nat.zero_le _, rfl, rfl, Lib.hid ⟨Ch.refl _ _, BldL.nil _ _ _ _ _⟩⟩
  case round =>
    obtain ⟨k, hk, rfl, rfl, HP⟩ := hrel
    have hlen := idx_len (lostL nb z l) k
    by_cases hlt : k < n + m
    · obtain ⟨hch, hbld⟩ := HP.out
      obtain ⟨xs, ho, hro⟩ := hbld
      have HO := Lib.hid ho
      have HRO := Lib.hid hro
      have HCH := Lib.hid hch
      have HM2 := Lib.hid (show (k + 1) * 24 ≤ 140737488355328 by omega)
      by_cases hlost : k < nb ∧ z k = true
      · obtain ⟨hkb, hzk⟩ := hlost
        obtain ⟨bb, ob, rfl, hcz⟩ := HZ.out (by omega)
        have cz : wr.cell? ⟨bb, ob + k, none⟩ = some (.bool true) := by rw [← hzk]; exact (HC4.out.trans hch).cell (hcz k hkb) (fun f => f)
        have HAP := Lib.hid (app_mk (x := .slice none 0 0) ho hch.size rfl (by omega))
        have HI := Lib.hid (show idx (lostL nb z l) (k + 1) = idx (lostL nb z l) k from idx_no (by rw [lost_yes ⟨hkb, hzk⟩]; omega))
        have HL0 := Lib.hid (lost_yes (l := l) ⟨hkb, hzk⟩)
        clear hch ho hro hcz HP hzk
        go_wp2_with (at_builtin; refine wpList_append_lies _ rfl (.tmp 80) (.tmp 81) /-t-/22 rfl w4.heap.size /-t-/33 i0 (.slice none 0 0) 1 24 Try.underlying22 hi hz0 hz1 hz2 rfl (by decide) u13 k xs rfl HAP.out.o ⟨wr.heap.size, 0, none⟩ 1 1 [.slice none 0 0] rfl rfl HAP.out.n HAP.out.c (by decide) HAP.out.m HM2.out HAP.out.b (wr.heap.size + 1) HAP.out.s ?_; intro g' cap w5 h1 h2 h3 h4)
        have hnb' : BldL w4.heap.size 0 w5 (.slice (some ⟨g', 0, none⟩) (k + 1) cap) (k + 1) (lostL nb z l) (sharesZ n X) := Bld.more _ HO.out HRO.out (by rw [HL0.out]; exact nil_row _ _) (fun q hq => by cases hq) h1 h2 h3
        have hnc : Ch (fun _ => False) w4 w5 := Bld.moreCh _ _ HCH.out HO.out (Nat.le_refl _) h2
        have HN := Lib.hid (show BackAt w4 w5 (.slice (some ⟨g', 0, none⟩) (k + 1) cap) (k + 1) n nb z l X from ⟨hnc, hnb'⟩)
        clear h1 h2 h3 h4 hnb' hnc
        go_wp2
        go_roundw
        case rel => exact ⟨k + 1, by omega, by go_num, by rw [HI.out], HN⟩
        case measure => simp [intOf]; omega
      · obtain ⟨Ar, Dr, cr, hrv, hrb⟩ := HRW.out k hlt
        have cr1 := hch.cell cr (fun f => f)
        have HX1 := Lib.hid (show RowV wr (.slice Ar l Dr) (lostL nb z l k) (sharesZ n X k) by rw [lost_no hlost]; exact hrv.ch hch (fun _ _ f => f))
        have HXB := Lib.hid (show ∀ q, (Value.slice Ar l Dr).ownBlock = some q → q < wr.heap.size ∧ u13.ownBlock ≠ some q ∧ 0 ≤ q from fun q hq => ⟨Nat.lt_of_lt_of_le (hrb q hq) hch.size, fun e => by
          have h1 := (World.ownsRow.lt HO.out q e).1
          have h2 := hrb q hq
          omega, Nat.zero_le _⟩)
        have HAP := Lib.hid (app_mk (x := .slice Ar l Dr) ho hch.size rfl (by omega))
        have HI := Lib.hid (show (idx (lostL nb z l) (k + 1)).length = (idx (lostL nb z l) k).length + 1 by rw [idx_yes (by rw [lost_no hlost]; omega)]; simp)
        have hcase : (¬ k < nb) ∨ (k < nb ∧ z k = false) := by
          by_cases q : k < nb
          · exact Or.inr ⟨q, by cases hzk : z k with
              | false => rfl
              | true => exact absurd ⟨q, hzk⟩ hlost⟩
          · exact Or.inl q
        have hstep : ∀ (g' cap : Nat) (w5 : World), w5.ownsRow w4.heap.size /-t-/33 1 (.slice (some ⟨g', 0, none⟩) (k + 1) cap) (k + 1) (xs ++ [.slice Ar l Dr]) → (wr.alloc (.cells #[.slice Ar l Dr] /-t-/33)).grownBy w5 u13.ownBlock → (u13.ownBlock = some g' ∨ g' = wr.heap.size + 1) → Hid (BackAt w4 w5 (.slice (some ⟨g', 0, none⟩) (k + 1) cap) (k + 1) n nb z l X) := fun g' cap w5 h1 h2 h3 =>
          Lib.hid ⟨Bld.moreCh _ _ HCH.out HO.out (Nat.le_refl _) h2, Bld.more _ HO.out HRO.out HX1.out HXB.out h1 h2 h3⟩
        have HST := Lib.hid hstep
        rcases hcase with hb | ⟨hkb, hzk⟩
        · have t6 : decide (k < nb) = false := decide_eq_false hb
          clear hch ho hro cr hrv hrb HP hstep hlost
          go_wp2_with (at_builtin; refine wpList_append_lies _ rfl (.tmp 85) (.tmp 90) /-t-/22 rfl w4.heap.size /-t-/33 i0 (.slice none 0 0) 1 24 Try.underlying22 hi hz0 hz1 hz2 rfl (by decide) u13 k xs rfl HAP.out.o ⟨wr.heap.size, 0, none⟩ 1 1 [.slice Ar l Dr] rfl rfl HAP.out.n HAP.out.c (by decide) HAP.out.m HM2.out HAP.out.b (wr.heap.size + 1) HAP.out.s ?_; intro g' cap w5 h1 h2 h3 h4)
          have HN := HST.out g' cap w5 h1 h2 h3
          clear h1 h2 h3 h4
          go_wp2
          go_roundw
          case rel => exact ⟨k + 1, by omega, by go_num, by rw [HI.out]; go_num, HN⟩
          case measure => simp [intOf]; omega
        · obtain ⟨bb, ob, rfl, hcz⟩ := HZ.out (by omega)
          have cz : wr.cell? ⟨bb, ob + k, none⟩ = some (.bool false) := by rw [← hzk]; exact (HC4.out.trans hch).cell (hcz k hkb) (fun f => f)
          clear hch ho hro cr hrv hrb HP hstep hlost hcz hzk
          go_wp2_with (at_builtin; refine wpList_append_lies _ rfl (.tmp 85) (.tmp 90) /-t-/22 rfl w4.heap.size /-t-/33 i0 (.slice none 0 0) 1 24 Try.underlying22 hi hz0 hz1 hz2 rfl (by decide) u13 k xs rfl HAP.out.o ⟨wr.heap.size, 0, none⟩ 1 1 [.slice Ar l Dr] rfl rfl HAP.out.n HAP.out.c (by decide) HAP.out.m HM2.out HAP.out.b (wr.heap.size + 1) HAP.out.s ?_; intro g' cap w5 h1 h2 h3 h4)
          have HN := HST.out g' cap w5 h1 h2 h3
          clear h1 h2 h3 h4
          go_wp2
          go_roundw
          case rel => exact ⟨k + 1, by omega, by go_num, by rw [HI.out]; go_num, HN⟩
          case measure => simp [intOf]; omega
    · have HE := Lib.hid (show k = n + m by omega)
      obtain ⟨hch, hbld⟩ := HP.out
      rw [HE.out] at hbld
      have hM := hbld.mat (by omega)
      obtain ⟨bs, os, Cs, rfl, _, _⟩ := hM.some (by omega)
      have HM := Lib.hid hM
      have HCH := Lib.hid hch
      have HFit := Lib.hid (lost_fits (nb := nb) (z := z) (n := n + m) l2)
      obtain ⟨q, hq⟩ : ∃ q, q = (idx (lostL nb z l) k).length := ⟨_, rfl⟩
      have HQ := Lib.hid (show (idx (lostL nb z l) (n + m)).length = q by rw [hq, HE.out])
      rw [← hq]
      have hq64 : q ≤ k := by omega
      clear hM hbld hch HP HRW HZ hlen hq
      by_cases hleft : n ≤ q
      · have t7 : decide (q < n) = false := decide_eq_false (by omega)
        go_wp2_with fail
        refine (decode_yes _ _ _ (n + m) n _ _ (shares_b n X) _ n1 (by omega) (by omega) HM.out HFit.out (by rw [HQ.out]; exact hleft)).mono ?_
        rintro e w6 ⟨D, hD, v6, rfl, hB6, hch6⟩
        rw [lost_long (by rw [HQ.out]; omega)] at hD hB6
        have hM6 := (hB6.mat (by omega)).congr (Y := sharesZ n X) fun r c _ hc => lost_back HX.out n1 (by omega) (by omega) (by rw [HQ.out]; exact hleft) hD r c hc
        obtain ⟨A6, C6, rfl, _⟩ := id hM6
        have HM6 := Lib.hid hM6
        have HC6 := Lib.hid hch6
        clear hD hB6 hM6 hch6
        go_wp2_with fail
        refine (same_any _ _ (n + m) (fun _ => l) (sharesZ n X) _ HM6.out (HAL.out.gr (HCH.out.trans HC6.out))).mono ?_
        rintro e w7 ⟨rfl, d7, rfl⟩
        go_wp2
        go_ret
        exact ⟨rfl, ((HC4.out.trans HCH.out).trans HC6.out).drewN _⟩
      · have t7 : decide (q < n) = true := decide_eq_true (by omega)
        go_wp2_with fail
        refine (decode_lost _ _ _ (n + m) n _ _ _ n1 (by omega) (by omega) HM.out (fun h => by have := h.2; rw [HQ.out] at this; exact hleft this)).mono ?_
        rintro e w6 (⟨hno, _⟩ | ⟨_, _, rfl, hch6⟩)
        · exact absurd HFit.out hno
        have HC6 := Lib.hid hch6
        clear hch6
        go_wp2
        go_ret
        exact ⟨rfl, (HC4.out.trans HCH.out).trans HC6.out⟩
theorem rsBack_of (va : Value) (m : Int) (vb : Value) (w : World) {n : Nat} {L : Nat → Nat} {X : Nat → Nat → Nat} {nb : Nat} {z : Nat → Bool} (ha : MatV w va n L X) (hm : -9223372036854775808 ≤ m ∧ m ≤ 9223372036854775807) (hb : BitsV w vb nb z) : Calls Try.prog 5 #[va, .int .i64 m, vb] w (Told w) := by
  by_cases h : lightB n L = true ∧ mayB n L = true ∧ 0 ≤ m ∧ m ≤ 20
  · obtain ⟨h1, h2, h3, h4⟩ := h
    obtain ⟨m, rfl⟩ := Int.eq_ofNat_of_zero_le h3
    obtain ⟨b, o, C, rfl, _, _⟩ := ha.some (mayB_true h2).1
    obtain ⟨Ab, Cb, rfl, _⟩ := id hb
    exact rsBack_main b o C n m L _ (trunc_b X) Ab nb Cb z w ha.trunc hb h1 h2 (by omega)
  · exact rsBack_short va vb n L X m w ha h
#print axioms rsBack_of
end Go.Proofs.Ytlgdajmidcdiaaa
