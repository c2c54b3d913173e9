/-
  MatOne, walked.
-/
import Derived.Test.YtpeidgochfcanaaLawB
namespace Go.Proofs.Ytpeidgochfcanaa
open Go.RowKit
set_option linter.unusedVariables false

/-! ### MatOne -/
theorem cauZ_pos {cols r k : Nat} (h : k < cols) (hb : cols + r < 256) : 0 < cauZ cols r k := by
  unfold cauZ
  exact quo_pos (xr_lt8 hb (by omega)) (by have := cau_sum (r := r) h; omega)
theorem mat_cap {w : World} {A : Option Addr} {n C : Nat} {L : Nat → Nat} {Z : Nat → Nat → Nat} (h : MatV w (.slice A n C) n L Z) : n ≤ C := by
  obtain ⟨A', C', e, hb, _⟩ := h
  injection e with _ _ e3
  omega
/-- The first rows of a matrix. -/
theorem mat_front {w : World} {b o n C k : Nat} {L : Nat → Nat} {Z : Nat → Nat → Nat} (h : MatV w (.slice (some ⟨b, o, none⟩) n C) n L Z) (hk : k ≤ n) : MatV w (.slice (some ⟨b, o, none⟩) k C) k L Z := by
  obtain ⟨A, C', e, hn, h3⟩ := h
  injection e with e1 e2 e3
  subst e1
  refine ⟨_, _, rfl, by omega, fun h0 => ?_⟩
  obtain ⟨b', o', e4, h4⟩ := h3 (by omega)
  injection e4 with e5
  injection e5 with e6 e7
  subst e6
  subst e7
  exact ⟨_, _, rfl, fun r hr => h4 r (by omega)⟩
set_option maxHeartbeats 3200000 in
set_option maxRecDepth 100000 in
theorem matOne_any (va : Value) (n : Nat) (L : Nat → Nat) (X : Nat → Nat → Nat) (hX : AllB X) (r c : Int) (w : World) (ha : MatV w va n L X) : Calls Try.prog 8 #[va, .int .i64 r, .int .i64 c] w (Told w) := by
  obtain ⟨A, Ca, rfl, na, _⟩ := id ha
  have HA := Lib.hid ha
  have BX := Lib.hid hX
  clear ha hX
  go_enter Try.func8, Try.ntmps8
  go_wp2_with fail
  refine (awake_any _).mono ?_
  rintro e w1 ⟨rfl, hch1⟩
  have HA1 := Lib.hid (HA.out.gr hch1)
  have HC1 := Lib.hid hch1
  clear hch1
  go_wp2_with fail
  refine (few_any _ n L X _ (by omega) (by omega) _ HA1.out).mono ?_
  rintro e w2 ⟨rfl, rfl⟩
  rw [ten]
  go_wp2_with fail
  refine (rmay_any _ n L X _ HA1.out).mono ?_
  rintro e w2 ⟨rfl, d2, rfl⟩
  cases f1 : fewB n L 10 with
  | false =>
    go_wp2
    go_ret
    exact ⟨rfl, HC1.out.drewN _⟩
  | true =>
  clear f1
  by_cases h1 : 1 ≤ r
  case neg =>
    have t1 : decide (r < 1) = true := by simp; omega
    go_wp2
    go_ret
    exact ⟨rfl, HC1.out.drewN _⟩
  have t1 : decide (r < 1) = false := by simp; omega
  by_cases h2 : r ≤ 10
  case neg =>
    have t2 : decide (10 < r) = true := by simp; omega
    go_wp2
    go_ret
    exact ⟨rfl, HC1.out.drewN _⟩
  have t2 : decide (10 < r) = false := by simp; omega
  by_cases h3 : 1 ≤ c
  case neg =>
    have t3 : decide (c < 1) = true := by simp; omega
    go_wp2
    go_ret
    exact ⟨rfl, HC1.out.drewN _⟩
  have t3 : decide (c < 1) = false := by simp; omega
  by_cases h4 : c ≤ 10
  case neg =>
    have t4 : decide (10 < c) = true := by simp; omega
    go_wp2
    go_ret
    exact ⟨rfl, HC1.out.drewN _⟩
  have t4 : decide (10 < c) = false := by simp; omega
  obtain ⟨r, rfl⟩ := Int.eq_ofNat_of_zero_le (show 0 ≤ r by omega)
  obtain ⟨c, rfl⟩ := Int.eq_ofNat_of_zero_le (show 0 ≤ c by omega)
  cases m1 : mayB n L with
  | false =>
    have HCX := Lib.hid (HC1.out.drewN d2)
    go_wp2_with fail
    refine (cauchy_yes _ _ (by omega) (by omega) (by omega) (by omega) _).mono ?_
    rintro e w4 ⟨v, rfl, hA4, hch4⟩
    rw [Int.toNat_natCast, Int.toNat_natCast] at hA4
    obtain ⟨A4, C4, rfl, _⟩ := id hA4
    have HA4 := Lib.hid hA4
    have HC4 := Lib.hid hch4
    clear hA4 hch4
    go_wp2_with fail
    refine (cauchy_yes _ _ (by omega) (by omega) (by omega) (by omega) _).mono ?_
    rintro e w5 ⟨v, rfl, hB5, hch5⟩
    rw [Int.toNat_natCast, show ((r : Int) + 1).toNat = r + 1 by omega] at hB5
    obtain ⟨b5, o5, C5, rfl, _, hr5⟩ := hB5.some (by omega)
    have HB5 := Lib.hid hB5
    have HR5 := Lib.hid hr5
    have HC5 := Lib.hid hch5
    have b1 : ((r : Int) + 1 != (r : Int) + 1) = false := by simp
    have hcap := mat_cap hB5
    have hcap1 : r ≤ C5 := by omega
    have hcap2 : (r : Int) ≤ (C5 : Int) := by omega
    clear hB5 hr5 hch5
    go_wp2
    go_loop [19, 20] (fun i _ => ∃ k : Nat, k ≤ r + 1 ∧ i = .int .i64 k) (fun i _ => r + 1 - (intOf i).toNat)
    case atStart => exact ⟨0, Nat.zero_le _, rfl⟩
    case round =>
      obtain ⟨k, hk, rfl⟩ := hrel
      by_cases hlt : k < r + 1
      · obtain ⟨Ak, Dk, ck, lk, hk3⟩ := HR5.out k hlt
        obtain ⟨bk, ok, rfl, hck⟩ := hk3 (by omega)
        have HCK := Lib.hid hck
        clear hk3 hck
        go_wp2
        go_loop [20] (fun i => ∃ q : Nat, q ≤ c ∧ i = .int .i64 q) (fun i => c - (intOf i).toNat)
        case atStart => exact ⟨0, Nat.zero_le _, rfl⟩
        case round =>
          obtain ⟨q, hq, rfl⟩ := hrel
          by_cases hql : q < c
          · have e1 := (HCK.out q hql).1
            have t9 : ((cauZ c k q : Int) == 0) = false := by rw [beq_eq_false_iff_ne]; have := cauZ_pos (r := k) hql (by omega); omega
            go_wp2
            go_round
            case rel => exact ⟨q + 1, by omega, by go_num⟩
            case measure => simp [intOf]; omega
          · go_wp2
            go_round
            case rel => exact ⟨k + 1, by omega, by go_num⟩
            case measure => simp [intOf]; omega
      · clear HR5
        have HF := Lib.hid (mat_front HB5.out (show r ≤ r + 1 by omega))
        go_wp2_with fail
        refine (same_any _ _ r (fun _ => c) (cauZ c) _ (HA4.out.gr HC5.out) HF.out).mono ?_
        rintro e w6 ⟨rfl, d6, rfl⟩
        go_wp2
        go_ret
        exact ⟨rfl, ((HCX.out.trans HC4.out).trans HC5.out).drewN _⟩
  | true =>
    obtain ⟨n1, n2, l1, l2, hL⟩ := mayB_true m1
    have M1 := Lib.hid m1
    have HAL := Lib.hid (show ∀ r, r < n → L r = L 0 from hL)
    have MO := Lib.hid (may_const n1 n2 n1 (by omega : n ≤ 4096))
    clear m1 hL
    go_wp2_with fail
    refine (one_yes _ (by omega) (by omega) _).mono ?_
    rintro e w3 ⟨v, rfl, hO3, hch3⟩
    rw [Int.toNat_natCast] at hO3
    obtain ⟨A3, C3, rfl, _⟩ := id hO3
    have HO3 := Lib.hid hO3
    have HC3 := Lib.hid hch3
    clear hO3 hch3
    have HA3 := Lib.hid ((HA1.out.drewN d2).gr HC3.out)
    go_wp2_with fail
    refine (mul_yes _ _ n n (fun _ => n) L oneZ X _ HO3.out HA3.out MO.out M1.out rfl).mono ?_
    rintro e w3b ⟨v, rfl, hP, hch3b⟩
    obtain ⟨A3b, C3b, rfl, _⟩ := id hP
    have HP := Lib.hid (show MatV w3b (.slice A3b n C3b) n (fun _ => L 0) X from hP.congr fun r c hr _ => one_mulZ BX.out hr c)
    have HC3b := Lib.hid hch3b
    have HA3b := Lib.hid ((HA3.out.gr hch3b).lens HAL.out)
    clear hP hch3b
    go_wp2_with fail
    refine (same_any _ _ n (fun _ => L 0) X _ HP.out HA3b.out).mono ?_
    rintro e w3c ⟨rfl, d3, rfl⟩
    have HCX := Lib.hid ((((HC1.out.drewN d2).trans HC3.out).trans HC3b.out).drewN d3)
    clear HP HA3b HA3 HO3
    go_wp2_with fail
    refine (cauchy_yes _ _ (by omega) (by omega) (by omega) (by omega) _).mono ?_
    rintro e w4 ⟨v, rfl, hA4, hch4⟩
    rw [Int.toNat_natCast, Int.toNat_natCast] at hA4
    obtain ⟨A4, C4, rfl, _⟩ := id hA4
    have HA4 := Lib.hid hA4
    have HC4 := Lib.hid hch4
    clear hA4 hch4
    go_wp2_with fail
    refine (cauchy_yes _ _ (by omega) (by omega) (by omega) (by omega) _).mono ?_
    rintro e w5 ⟨v, rfl, hB5, hch5⟩
    rw [Int.toNat_natCast, show ((r : Int) + 1).toNat = r + 1 by omega] at hB5
    obtain ⟨b5, o5, C5, rfl, _, hr5⟩ := hB5.some (by omega)
    have HB5 := Lib.hid hB5
    have HR5 := Lib.hid hr5
    have HC5 := Lib.hid hch5
    have b1 : ((r : Int) + 1 != (r : Int) + 1) = false := by simp
    have hcap := mat_cap hB5
    have hcap1 : r ≤ C5 := by omega
    have hcap2 : (r : Int) ≤ (C5 : Int) := by omega
    clear hB5 hr5 hch5
    go_wp2
    go_loop [19, 20] (fun i _ => ∃ k : Nat, k ≤ r + 1 ∧ i = .int .i64 k) (fun i _ => r + 1 - (intOf i).toNat)
    case atStart => exact ⟨0, Nat.zero_le _, rfl⟩
    case round =>
      obtain ⟨k, hk, rfl⟩ := hrel
      by_cases hlt : k < r + 1
      · obtain ⟨Ak, Dk, ck, lk, hk3⟩ := HR5.out k hlt
        obtain ⟨bk, ok, rfl, hck⟩ := hk3 (by omega)
        have HCK := Lib.hid hck
        clear hk3 hck
        go_wp2
        go_loop [20] (fun i => ∃ q : Nat, q ≤ c ∧ i = .int .i64 q) (fun i => c - (intOf i).toNat)
        case atStart => exact ⟨0, Nat.zero_le _, rfl⟩
        case round =>
          obtain ⟨q, hq, rfl⟩ := hrel
          by_cases hql : q < c
          · have e1 := (HCK.out q hql).1
            have t9 : ((cauZ c k q : Int) == 0) = false := by rw [beq_eq_false_iff_ne]; have := cauZ_pos (r := k) hql (by omega); omega
            go_wp2
            go_round
            case rel => exact ⟨q + 1, by omega, by go_num⟩
            case measure => simp [intOf]; omega
          · go_wp2
            go_round
            case rel => exact ⟨k + 1, by omega, by go_num⟩
            case measure => simp [intOf]; omega
      · clear HR5
        have HF := Lib.hid (mat_front HB5.out (show r ≤ r + 1 by omega))
        go_wp2_with fail
        refine (same_any _ _ r (fun _ => c) (cauZ c) _ (HA4.out.gr HC5.out) HF.out).mono ?_
        rintro e w6 ⟨rfl, d6, rfl⟩
        go_wp2
        go_ret
        exact ⟨rfl, ((HCX.out.trans HC4.out).trans HC5.out).drewN _⟩
theorem matOne_of (va : Value) (r c : Int) (w : World) {n : Nat} {L : Nat → Nat} {X : Nat → Nat → Nat} (ha : MatV w va n L X) (hr : -9223372036854775808 ≤ r ∧ r ≤ 9223372036854775807) (hc : -9223372036854775808 ≤ c ∧ c ≤ 9223372036854775807) : Calls Try.prog 8 #[va, .int .i64 r, .int .i64 c] w (Told w) :=
  matOne_any va n L _ (trunc_b X) r c w ha.trunc
#print axioms matOne_any
end Go.Proofs.Ytpeidgochfcanaa
