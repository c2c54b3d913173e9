/-
  SnapAreas, walked.
-/
import Derived.Test.YtlbdopcchoklhaaGreatMh43
namespace Go.Proofs.YtlbdopcchoklhaaGreat
open Go.RowKit
set_option linter.unusedVariables false
set_option maxRecDepth 100000
set_option linter.unusedSimpArgs false

theorem frs_next {n : Gn} {a s : Nat} : frsN n a s + n.K + n.M = frsN n a (s + 1) := by
  unfold frsN Gn.q
  rw [show a * n.S + (s + 1) = (a * n.S + s) + 1 by omega, Nat.succ_mul]
  omega
theorem frs_area {n : Gn} {a : Nat} : frsN n a n.S = frsN n (a + 1) 0 := by
  unfold frsN
  rw [Nat.succ_mul, Nat.add_zero]
theorem frs_tot {n : Gn} : frsN n 2 0 = n.tot := by
  unfold frsN Gn.tot
  rw [Nat.add_zero, Nat.mul_assoc]
theorem frs_le {n : Gn} (hn : n.Ok) {a s : Nat} (ha : a ≤ 1) (hs : s ≤ n.S) : frsN n a s ≤ 2564 := by
  have h1 := hn.tot2
  have h2 : a * n.S + s ≤ 2 * n.S := by
    rcases Nat.le_one_iff_eq_zero_or_eq_one.1 ha with rfl | rfl <;> omega
  have h3 := Nat.mul_le_mul_right n.q h2
  unfold frsN
  unfold Gn.tot at h1
  rw [Nat.mul_assoc] at h3
  omega
set_option maxHeartbeats 6400000 in
theorem snapAreas_of (g : Ge) (w : World) : Calls Tryz.prog 8 #[.agg (geC g)] w (Told w) := by
  obtain ⟨w1, H, hR⟩ := geR w g
  obtain ⟨x0, x1, x2, x3⟩ := hR.x
  have HR := Lib.hid hR
  have HX := Lib.hid hR.x
  have HUP := Lib.hid (fun w => snawake_any w)
  have HSM := Lib.hid (fun w => small12_any g w)
  have HMY := Lib.hid (fun w => rgmay_any g w)
  by_cases hc : smlB g = true ∧ mayG g = true
  case neg =>
    have hcc : smlB g = false ∨ (smlB g = true ∧ mayG g = false) := by
      cases h1 : smlB g
      · exact Or.inl rfl
      · cases h2 : mayG g
        · exact Or.inr ⟨rfl, rfl⟩
        · exact absurd ⟨h1, h2⟩ hc
    clear hc hR
    obtain ⟨sm, hsm⟩ : ∃ sm, sm = smlB g := ⟨_, rfl⟩
    obtain ⟨my, hmy⟩ : ∃ my, my = mayG g := ⟨_, rfl⟩
    rw [← hsm] at HSM
    rw [← hmy] at HMY
    rw [← hsm, ← hmy] at hcc
    clear hsm hmy
    go_enter Tryz.func8, Tryz.ntmps8
    go_wp2_with (first | ((with_reducible refine wpList_isOp (.box 23 (.tmp 0)) rfl ?_); refine wpList_boxing _ w1 rfl 23 (.tmp 0) rfl (geC g) H rfl (by exact HR.out.sz) (by exact HR.out.al) ?_) | fail)
    refine (HUP.out _).mono ?_
    rintro e w2 ⟨rfl, hc2⟩
    have HC2 := Lib.hid (HR.out.ch.trans hc2)
    clear x0 x1 x2 x3
    obtain ⟨x0, x1, x2, x3⟩ := HX.out.gr hc2
    have HX2 := Lib.hid (HX.out.gr hc2)
    clear hc2
    go_wp2_with fail
    refine (HSM.out _).mono ?_
    rintro e w3 ⟨rfl, hc3⟩
    have HC3 := Lib.hid (HC2.out.trans hc3)
    clear x0 x1 x2 x3
    obtain ⟨x0, x1, x2, x3⟩ := HX2.out.gr hc3
    clear hc3
    go_wp2_with fail
    refine (HMY.out _).mono ?_
    rintro e w4 ⟨rfl, hc4⟩
    have HC4 := Lib.hid (HC3.out.trans hc4)
    clear hc4 x0 x1 x2 x3
    rcases hcc with rfl | ⟨rfl, rfl⟩
    · cases my
      all_goals (
        go_wp2
        go_ret
        exact ⟨rfl, HC4.out⟩)
    · go_wp2
      go_ret
      exact ⟨rfl, HC4.out⟩
  obtain ⟨h1, h2⟩ := hc
  obtain ⟨n, hn, rfl⟩ := may_nat h2
  rw [h1] at HSM
  rw [h2] at HMY
  have HN := Lib.hid hn
  have HF := Lib.hid (fun (a s : Nat) (w : World) (ha : a ≤ 1) (hs : s < n.S) => sfirst_yes n a s w hn ha hs)
  have HOW := Lib.hid (fun w => owners_any n hn w)
  have s0 : (0 : Int) ≤ (n.S : Int) := Int.natCast_nonneg _
  have s1 : (n.S : Int) ≤ 32 := by have := hn.s2; omega
  have e0 : wrap64 (4 + wrap64 (2 * n.ge.wal)) = (frsN n 0 0 : Int) := by
    have w2 := hn.w2
    show wrap64 (4 + wrap64 (2 * (n.W : Int))) = _
    rw [IntWalk.wrap64_in (2 * (n.W : Int)) ⟨by omega, by omega⟩, IntWalk.wrap64_in _ ⟨by omega, by omega⟩]
    unfold frsN Gn.fs
    omega
  have HE0 := Lib.hid e0
  clear hR h1 h2 hn e0
  go_enter Tryz.func8, Tryz.ntmps8
  go_wp2_with (first | ((with_reducible refine wpList_isOp (.box 23 (.tmp 0)) rfl ?_); refine wpList_boxing _ w1 rfl 23 (.tmp 0) rfl (geC n.ge) H rfl (by exact HR.out.sz) (by exact HR.out.al) ?_) | fail)
  refine (HUP.out _).mono ?_
  rintro e w2 ⟨rfl, hc2⟩
  have HC2 := Lib.hid (HR.out.ch.trans hc2)
  clear x0 x1 x2 x3
  obtain ⟨x0, x1, x2, x3⟩ := HX.out.gr hc2
  have HX2 := Lib.hid (HX.out.gr hc2)
  clear hc2
  go_wp2_with fail
  refine (HSM.out _).mono ?_
  rintro e w3 ⟨rfl, hc3⟩
  have HC3 := Lib.hid (HC2.out.trans hc3)
  clear x0 x1 x2 x3
  obtain ⟨x0, x1, x2, x3⟩ := HX2.out.gr hc3
  have HX3 := Lib.hid (HX2.out.gr hc3)
  clear hc3
  go_wp2_with fail
  refine (HMY.out _).mono ?_
  rintro e w4 ⟨rfl, hc4⟩
  have HC4 := Lib.hid (HC3.out.trans hc4)
  clear x0 x1 x2 x3
  obtain ⟨x0, x1, x2, x3⟩ := HX3.out.gr hc4
  have HX4 := Lib.hid (HX3.out.gr hc4)
  clear hc4 HX HX2 HX3 HC2 HC3
  go_wp2_with fail
  rw [HE0.out]
  obtain ⟨L0, hL0⟩ : ∃ L0, L0 = frsN n 0 0 := ⟨_, rfl⟩
  rw [← hL0]
  have HL0 := Lib.hid hL0
  clear hL0
  go_loopw [2, 6, 7, 8, 9, 10, 31, 32, 33, 34, 35, 36, 37, 38, 39, 40, 41, 42, 43, 44, 45, 46, 47, 48, 49, 50, 51, 52, 53, 54, 55, 56, 57, 58, 59, 60, 61] (fun _ t6 t7 _ _ _ _ _ _ _ _ _ _ _ _ _ _ _ _ _ _ _ _ _ _ _ _ _ _ _ _ _ _ _ _ _ _ wr => ∃ A L : Nat, A ≤ 2 ∧ t7 = .int .i64 A ∧ t6 = .int .i64 L ∧ Hid (L = frsN n A 0) ∧ Hid (Ch (fun _ => False) w4 wr)) (fun _ _ t7 _ _ _ _ _ _ _ _ _ _ _ _ _ _ _ _ _ _ _ _ _ _ _ _ _ _ _ _ _ _ _ _ _ _ _ => 2 - (intOf t7).toNat)
  case atStart => exact ⟨0, L0, by omega, rfl, rfl, HL0, Lib.hid (Ch.refl _ _)⟩
  case round =>
    obtain ⟨A, L, hA, rfl, rfl, HL, HCW⟩ := hrel
    have a0 : (0 : Int) ≤ (A : Int) := Int.natCast_nonneg _
    obtain ⟨wo, rfl⟩ : ∃ wo, wo = wr := ⟨_, rfl⟩
    clear x0 x1 x2 x3
    obtain ⟨x0, x1, x2, x3⟩ := HX4.out.gr HCW.out
    by_cases hA2 : A < 2
    · have a1 : (A : Int) < 2 := by omega
      have HA1 := Lib.hid (show A ≤ 1 by omega)
      have HCO := HCW
      go_wp2_with fail
      go_loopw [2, 6, 8, 9, 10, 35, 36, 37, 38, 39, 40, 41, 42, 43, 44, 45, 46, 47, 48, 49, 50, 51, 52, 53, 54, 55, 56, 57, 58, 59, 60, 61] (fun _ t6 t8 _ _ _ _ _ _ _ _ _ _ _ _ _ _ _ _ _ _ _ _ _ _ _ _ _ _ _ _ _ wr => ∃ s L : Nat, s ≤ n.S ∧ t8 = .int .i64 s ∧ t6 = .int .i64 L ∧ Hid (L = frsN n A s) ∧ Hid (Ch (fun _ => False) w4 wr)) (fun _ _ t8 _ _ _ _ _ _ _ _ _ _ _ _ _ _ _ _ _ _ _ _ _ _ _ _ _ _ _ _ _ _ => n.S - (intOf t8).toNat)
      case atStart => exact ⟨0, L, Nat.zero_le _, rfl, rfl, HL, HCO⟩
      case round =>
        clear HL HCO HCW
        obtain ⟨s, L, hs, rfl, rfl, HL, HCW⟩ := hrel
        have t0 : (0 : Int) ≤ (s : Int) := Int.natCast_nonneg _
        clear x0 x1 x2 x3
        obtain ⟨x0, x1, x2, x3⟩ := HX4.out.gr HCW.out
        by_cases hlt : s < n.S
        · have t1 : (s : Int) < n.ge.st := by show (s : Int) < (n.S : Int); omega
          have hf := HF.out A s wr HA1.out hlt
          rw [← HL.out] at hf
          have HFS := Lib.hid hf
          have HLT := Lib.hid hlt
          clear hf hlt
          go_wp2_with fail
          refine HFS.out.mono ?_
          rintro e w5 ⟨rfl, hc5⟩
          have HC5 := Lib.hid (HCW.out.trans hc5)
          clear x0 x1 x2 x3
          obtain ⟨x0, x1, x2, x3⟩ := HX4.out.gr HC5.out
          have HNX := Lib.hid (show wrap64 (wrap64 ((L : Int) + n.ge.k) + n.ge.m) = (frsN n A (s + 1) : Int) by
            show wrap64 (wrap64 ((L : Int) + (n.K : Int)) + (n.M : Int)) = (frsN n A (s + 1) : Int)
            have h1 := frs_le HN.out HA1.out (Nat.le_of_lt HLT.out)
            have h2 := HN.out.k2
            have h3 := HN.out.m2
            rw [← HL.out] at h1
            rw [IntWalk.wrap64_in ((L : Int) + (n.K : Int)) ⟨by omega, by omega⟩, IntWalk.wrap64_in _ ⟨by omega, by omega⟩, ← frs_next, ← HL.out]
            omega)
          clear hc5
          go_wp2
          go_roundw
          case rel => exact ⟨s + 1, frsN n A (s + 1), HLT.out, by go_num, by rw [← HNX.out], Lib.hid rfl, HC5⟩
          case measure => have := HLT.out; simp [intOf]; omega
        · have hse : s = n.S := by omega
          have t1 : ¬ (s : Int) < n.ge.st := by show ¬ (s : Int) < (n.S : Int); omega
          have HLN : Hid (L = frsN n (A + 1) 0) := Lib.hid (by rw [HL.out, hse, frs_area])
          clear hse HL
          go_wp2_with fail
          go_roundw
          case rel => exact ⟨A + 1, L, by omega, by go_num, rfl, HLN, HCW⟩
          case measure => simp [intOf]; omega
    · have hAe : A = 2 := by omega
      have a1 : ¬ (A : Int) < 2 := by omega
      have HLN : Hid (L = n.tot) := Lib.hid (by rw [HL.out, hAe, frs_tot])
      have HCF := Lib.hid (HC4.out.trans HCW.out)
      clear hAe HL
      go_wp2_with fail
      refine (HOW.out _).mono ?_
      rintro e w5 ⟨v, rfl, ho5, hc5⟩
      have htp : 0 < n.tot := by have := HN.out.w1; unfold Gn.tot Gn.fs; omega
      obtain ⟨gv, cap, rfl, _, _⟩ := ho5.form htp
      have HC5 := Lib.hid (HCF.out.trans hc5)
      rw [← HLN.out]
      clear ho5 hc5 htp x0 x1 x2 x3
      go_wp2
      go_ret
      exact ⟨rfl, HC5.out⟩
end Go.Proofs.YtlbdopcchoklhaaGreat
