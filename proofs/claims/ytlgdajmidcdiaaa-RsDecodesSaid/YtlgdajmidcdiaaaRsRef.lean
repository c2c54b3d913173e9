/-
  The document's Rows and Encode, walked.
-/
import Derived.Test.YtlgdajmidcdiaaaRsA
namespace Go.Proofs.Ytlgdajmidcdiaaa
open Go.RowKit
set_option linter.unusedVariables false

set_option maxHeartbeats 1600000 in
theorem rrows_new (k m : Nat) (k1 : 1 ≤ k) (hkm : k + m ≤ 64) (w : World) : Calls Try.prog 15 #[.int .i64 (k : Int), .int .i64 (m : Int)] w (FreshPost (k + m) k (allZ k) w) := by
  have t1 : decide ((k : Int) < 1) = false := by simp; omega
  have t2 : decide ((64 : Int) < (k : Int)) = false := by simp; omega
  have t3 : decide ((m : Int) < 0) = false := by simp
  have t4 : decide ((64 : Int) < (m : Int)) = false := by simp; omega
  have t6 : decide ((64 : Int) < (k : Int) + (m : Int)) = false := by simp; omega
  by_cases h0 : m = 0
  · have t5 : decide (0 < m) = false := by simp [h0]
    have HE := Lib.hid h0
    clear h0
    go_enter Try.func15, Try.ntmps15
    go_wp2_with fail
    refine (rone_new _ (by omega) (by omega) _).mono ?_
    rintro e w1 ⟨v, rfl, hB, hch⟩
    rw [Int.toNat_natCast] at hB
    have HB := Lib.hid hB
    clear hB
    go_wp2
    go_ret2
    refine ⟨_, rfl, ?_, hch⟩
    rw [HE.out]
    exact BldL.congr HB.out fun r c hr _ => by unfold allZ; rw [if_pos (show r < k from hr)]
  · have t5 : decide ((0 : Int) < (m : Int)) = true := by simp; omega
    have m1 : 1 ≤ m := by omega
    clear h0
    go_enter Try.func15, Try.ntmps15
    go_wp2_with fail
    refine (rone_new _ (by omega) (by omega) _).mono ?_
    rintro e w1 ⟨v, rfl, hB, hch⟩
    rw [Int.toNat_natCast] at hB
    have HB := Lib.hid hB
    have HC := Lib.hid hch
    clear hB hch
    go_wp2_with fail
    refine (rcauchy_new _ _ (by omega) (by omega) (by omega) (by omega) _).mono ?_
    rintro e w2 ⟨u, rfl, hB2, hch2⟩
    rw [Int.toNat_natCast, Int.toNat_natCast] at hB2
    obtain ⟨v', w', hj⟩ := bld_join (BldL.ch HB.out hch2) hB2 (Nat.le_trans HC.out.size hch2.size) (by omega) (fun q hq => (BldL.block HB.out hq).2) HC.out.size
    have hchw := hj.ch (HC.out.trans hch2) (fun q hq => (BldL.block HB.out hq).1)
    have HJ := Lib.hid hj.1
    have HBJ := Lib.hid hj.2.1
    have HCW := Lib.hid hchw
    clear hB2 hch2 hj hchw
    go_wp2_with (at_builtin; refine wpList_rows_of _ rfl (.tmp 43) (.tmp 44) rfl rfl v u v' w' rfl rfl HJ.out ?_)
    go_ret2
    exact ⟨_, rfl, rows_bld HBJ.out, HCW.out⟩
set_option maxHeartbeats 800000 in
theorem rrows_no (k m : Int) (h : ¬ (1 ≤ k ∧ 0 ≤ m ∧ k + m ≤ 64)) (w : World) : Calls Try.prog 15 #[.int .i64 k, .int .i64 m] w (ErrPost 1 w) := by
  by_cases h1 : 1 ≤ k
  case neg =>
    have t1 : decide (k < 1) = true := by simp; omega
    go_enter Try.func15, Try.ntmps15
    go_wp2
    go_ret2
    exact ⟨rfl, Ch.refl _ _⟩
  have t1 : decide (k < 1) = false := by simp; omega
  by_cases h3 : 0 ≤ m
  case neg =>
    have t3 : decide (m < 0) = true := by simp; omega
    go_enter Try.func15, Try.ntmps15
    go_wp2
    go_ret2
    exact ⟨rfl, Ch.refl _ _⟩
  have t3 : decide (m < 0) = false := by simp; omega
  by_cases h2 : k ≤ 64
  case neg =>
    have t2 : decide (64 < k) = true := by simp; omega
    go_enter Try.func15, Try.ntmps15
    go_wp2
    go_ret2
    exact ⟨rfl, Ch.refl _ _⟩
  have t2 : decide (64 < k) = false := by simp; omega
  by_cases h4 : m ≤ 64
  case neg =>
    have t4 : decide (64 < m) = true := by simp; omega
    go_enter Try.func15, Try.ntmps15
    go_wp2
    go_ret2
    exact ⟨rfl, Ch.refl _ _⟩
  have t4 : decide (64 < m) = false := by simp; omega
  have t5 : decide (64 < k + m) = true := by simp; omega
  go_enter Try.func15, Try.ntmps15
  go_wp2
  go_ret2
  exact ⟨rfl, Ch.refl _ _⟩
#print axioms rrows_new
#print axioms rrows_no
set_option maxHeartbeats 1600000 in
theorem rencode_new (va : Value) (n m : Nat) (L : Nat → Nat) (X : Nat → Nat → Nat) (w : World) (ha : MatV w va n L X) (m1 : mayB n L = true) (hm : n + m ≤ 64) : Calls Try.prog 13 #[va, .int .i64 (m : Int)] w (FreshPost m (L 0) (mulZ n (cauZ n) X) w) := by
  obtain ⟨n1, n2, l1, l2, hL⟩ := mayB_true m1
  obtain ⟨A, Ca, rfl, na, _⟩ := id ha
  have HA := Lib.hid ha
  have M1 := Lib.hid m1
  clear ha hL m1
  by_cases h0 : m = 0
  · have t5 : ((m : Int) == 0) = true := by simp [h0]
    have HE := Lib.hid h0
    clear h0
    go_enter Try.func13, Try.ntmps13
    go_wp2_with fail
    refine (rmay_any _ n L X _ HA.out).mono ?_
    rintro e w1 ⟨rfl, d1, rfl⟩
    rw [M1.out]
    go_wp2_with fail
    refine (rrows_new n m n1 hm _).mono ?_
    rintro e w1 ⟨v, rfl, hB, hch⟩
    clear hB
    go_wp2
    go_ret2
    refine ⟨_, rfl, ?_, ((Ch.refl _ w).drewN _).trans hch⟩
    rw [HE.out]
    exact Bld.nil _ _ _ _
  · have t5 : ((m : Int) == 0) = false := by simp [h0]
    have mp : 1 ≤ m := by omega
    clear h0
    go_enter Try.func13, Try.ntmps13
    go_wp2_with fail
    refine (rmay_any _ n L X _ HA.out).mono ?_
    rintro e w1 ⟨rfl, d1, rfl⟩
    rw [M1.out]
    go_wp2_with fail
    refine (rrows_new n m n1 hm _).mono ?_
    rintro e w1 ⟨v, rfl, hB, hch⟩
    have hM := hB.mat (by omega)
    obtain ⟨b, o, C, rfl, _, _⟩ := hM.some (by omega)
    obtain ⟨A', C', e', hc1, _⟩ := id hM
    obtain rfl : C = C' := by injection e'
    have hT := mat_tail hM (show n < n + m by omega)
    rw [Nat.add_sub_cancel_left] at hT
    have HT := Lib.hid hT
    have HC := Lib.hid (((Ch.refl _ w).drewN _).trans hch)
    have hcap := hc1.2
    have s1 : n + m - n = m := Nat.add_sub_cancel_left n m
    have MR := Lib.hid (may_const mp (by omega : m ≤ 64) n1 (by omega : n ≤ 4096))
    clear hM hB hT hch e' hc1
    go_wp2_with fail
    refine (rmulM_new _ _ m n _ L _ X _ HT.out (HA.out.gr HC.out) MR.out M1.out rfl).mono ?_
    rintro e w2 ⟨u, rfl, hB2, hch2⟩
    have HB2 := Lib.hid hB2
    have HC2 := Lib.hid hch2
    clear hB2 hch2
    go_wp2
    go_ret2
    exact ⟨_, rfl, Bld.base (BldL.congr HB2.out fun r c _ _ => enc_congr (m := m) r c) HC.out.size, HC.out.trans HC2.out⟩
#print axioms rencode_new
set_option maxHeartbeats 800000 in
theorem rencode_no (va : Value) (n : Nat) (m : Int) (L : Nat → Nat) (X : Nat → Nat → Nat) (w : World) (ha : MatV w va n L X) (h : ¬ (mayB n L = true ∧ 0 ≤ m ∧ (n : Int) + m ≤ 64)) : Calls Try.prog 13 #[va, .int .i64 m] w (ErrPost 1 w) := by
  obtain ⟨A, Ca, rfl, na, _⟩ := id ha
  have HA := Lib.hid ha
  clear ha
  by_cases hr : 1 ≤ (n : Int) ∧ 0 ≤ m ∧ (n : Int) + m ≤ 64
  · have m1 : mayB n L = false := by
      cases q : mayB n L with
      | false => rfl
      | true => exact absurd ⟨q, hr.2⟩ h
    obtain ⟨m, rfl⟩ := Int.eq_ofNat_of_zero_le hr.2.1
    have hn1 : 1 ≤ n := by omega
    have hn2 : n + m ≤ 64 := by omega
    have M1 := Lib.hid m1
    clear h hr m1
    go_enter Try.func13, Try.ntmps13
    go_wp2_with fail
    refine (rmay_any _ n L X _ HA.out).mono ?_
    rintro e w1 ⟨rfl, d1, rfl⟩
    rw [M1.out]
    go_wp2_with fail
    refine (rrows_new n m hn1 hn2 _).mono ?_
    rintro e w1 ⟨v, rfl, hB, hch⟩
    go_wp2
    go_ret2
    exact ⟨rfl, ((Ch.refl _ w).drewN _).trans hch⟩
  · have HR := Lib.hid hr
    clear h hr
    cases m1 : mayB n L with
    | false =>
      go_enter Try.func13, Try.ntmps13
      go_wp2_with fail
      refine (rmay_any _ n L X _ HA.out).mono ?_
      rintro e w1 ⟨rfl, d1, rfl⟩
      rw [m1]
      go_wp2_with fail
      refine (rrows_no _ _ HR.out _).mono ?_
      rintro e w1 ⟨rfl, hch⟩
      go_wp2
      go_ret2
      exact ⟨rfl, ((Ch.refl _ w).drewN _).trans hch⟩
    | true =>
      go_enter Try.func13, Try.ntmps13
      go_wp2_with fail
      refine (rmay_any _ n L X _ HA.out).mono ?_
      rintro e w1 ⟨rfl, d1, rfl⟩
      rw [m1]
      go_wp2_with fail
      refine (rrows_no _ _ HR.out _).mono ?_
      rintro e w1 ⟨rfl, hch⟩
      go_wp2
      go_ret2
      exact ⟨rfl, ((Ch.refl _ w).drewN _).trans hch⟩
#print axioms rencode_no
end Go.Proofs.Ytlgdajmidcdiaaa
