/-
  The document's own answers, walked: bit, power, sum, Add (quartermasterref01).
-/
import Derived.Test.YtlgdajmidcdiaaaRows
import Derived.Test.YtlgdajmidcdiaaaPoly
import Derived.WalkKit
import Derived.WalkSpells
import Derived.WalkLawsBesides
import Derived.Lib.Hide
namespace Go.Proofs.Ytlgdajmidcdiaaa
open Go.RowKit

theorem ret_int {k : IntKind} {a b : Int} (h : a = b) : Ending.returned (.int k a) = .returned (.int k b) := by rw [h]
theorem int_eq {k : IntKind} {a b : Int} (h : a = b) : Value.int k a = .int k b := by rw [h]

set_option maxHeartbeats 400000 in
theorem power_any (k : Int) (h0 : 0 ≤ k) (h1 : k ≤ 16) (w : World) :
    Calls Try.prog 47 #[.int .i64 k] w fun e w' => e = .returned (.int .i64 (pw k.toNat : Int)) ∧ w = w' := by
  obtain ⟨k, rfl⟩ := Int.eq_ofNat_of_zero_le h0
  rw [Int.toNat_natCast]
  go_enter Try.func47, Try.ntmps47
  go_wp2
  go_loop [3, 4] (fun n i => ∃ j : Nat, j ≤ k ∧ i = .int .i64 j ∧ n = .int .i64 (pw j : Int)) (fun _ i => k - (intOf i).toNat)
  case atStart => exact ⟨0, Nat.zero_le _, rfl, rfl⟩
  case round =>
    obtain ⟨j, hj, rfl, rfl⟩ := hrel
    have hp := pw_le j (by omega)
    have HS := Lib.hid (pw_succ j)
    by_cases hlt : j < k
    · go_wp2
      go_round
      case rel => exact ⟨j + 1, by omega, by go_num, by rw [HS.out]; go_num⟩
      case measure => simp [intOf]; omega
    · have HE := Lib.hid (show k = j by omega)
      go_wp2
      go_ret
      exact ⟨ret_int (by rw [HE.out]), rfl⟩

set_option maxHeartbeats 400000 in
theorem bit_any (a k : Int) (a0 : 0 ≤ a) (a1 : a < 65536) (h0 : 0 ≤ k) (h1 : k ≤ 16) (w : World) :
    Calls Try.prog 46 #[.int .i64 a, .int .i64 k] w fun e w' => e = .returned (.int .i64 (bt a.toNat k.toNat : Int)) ∧ w = w' := by
  obtain ⟨k, rfl⟩ := Int.eq_ofNat_of_zero_le h0
  obtain ⟨a, rfl⟩ := Int.eq_ofNat_of_zero_le a0
  rw [Int.toNat_natCast, Int.toNat_natCast]
  go_enter Try.func46, Try.ntmps46
  go_wp2
  go_loop [0, 5] (fun n i => ∃ j : Nat, j ≤ k ∧ i = .int .i64 j ∧ n = .int .i64 (sh a j : Int)) (fun _ i => k - (intOf i).toNat)
  case atStart => exact ⟨0, Nat.zero_le _, rfl, by simp [sh]⟩
  case round =>
    obtain ⟨j, hj, rfl, rfl⟩ := hrel
    have hp := sh_le a j
    have HS := Lib.hid (half a j)
    by_cases hlt : j < k
    · go_wp2
      go_round
      case rel => exact ⟨j + 1, by omega, by go_num, by rw [HS.out]; go_num⟩
      case measure => simp [intOf]; omega
    · have HE := Lib.hid (show k = j by omega)
      have HB := Lib.hid (show bt a j = sh a j % 2 from rfl)
      go_wp2
      go_ret
      exact ⟨ret_int (by rw [HE.out, HB.out]; omega), rfl⟩

/-! ### sum: without carry -/
set_option maxHeartbeats 800000 in
set_option maxRecDepth 100000 in
theorem sum_any (a b : Int) (a0 : 0 ≤ a) (a1 : a < 65536) (b0 : 0 ≤ b) (b1 : b < 65536) (w : World) :
    Calls Try.prog 32 #[.int .i64 a, .int .i64 b] w fun e w' => e = .returned (.int .i64 (xr a.toNat b.toNat : Int)) ∧ w = w' := by
  obtain ⟨a, rfl⟩ := Int.eq_ofNat_of_zero_le a0
  obtain ⟨b, rfl⟩ := Int.eq_ofNat_of_zero_le b0
  rw [Int.toNat_natCast, Int.toNat_natCast]
  have A := Lib.hid (show (0 : Int) ≤ (a : Int) ∧ (a : Int) < 65536 from ⟨a0, a1⟩)
  have B := Lib.hid (show (0 : Int) ≤ (b : Int) ∧ (b : Int) < 65536 from ⟨b0, b1⟩)
  clear a0 a1 b0 b1
  go_enter Try.func32, Try.ntmps32
  go_wp2
  go_loop [5, 6] (fun n i => ∃ j : Nat, j ≤ 16 ∧ i = .int .i64 j ∧ n = .int .i64 (xm a b j : Int)) (fun _ i => 16 - (intOf i).toNat)
  case atStart => exact ⟨0, Nat.zero_le _, rfl, by simp [xm, Nat.mod_one]⟩
  case round =>
    obtain ⟨j, hj, rfl, rfl⟩ := hrel
    have hp := pw_le j (by omega)
    have hm := xm_lt a b j
    have HA := bt_lt a j
    have HB := bt_lt b j
    by_cases hlt : j < 16
    · by_cases hbit : bt a j = bt b j
      · have HS := Lib.hid (xm_same a b j hbit)
        have hbb : (((bt a j : Nat) : Int) != ((bt b j : Nat) : Int)) = false := by simp [hbit]
        clear hbit
        go_wp2_with (go_at_call 46; refine (bit_any _ _ (by omega) (by have := A.out; have := B.out; omega) (by omega) (by omega) _).mono ?_; rintro e w' ⟨rfl, rfl⟩; simp only [Int.toNat_natCast])
        go_round
        case rel => exact ⟨j + 1, by omega, by go_num, by rw [HS.out]⟩
        case measure => simp [intOf]; omega
      · have HS := Lib.hid (xm_other a b j hbit)
        have hbb : (((bt a j : Nat) : Int) != ((bt b j : Nat) : Int)) = true := by simp; omega
        clear hbit
        go_wp2_with (first | (go_at_call 46; refine (bit_any _ _ (by omega) (by have := A.out; have := B.out; omega) (by omega) (by omega) _).mono ?_; rintro e w' ⟨rfl, rfl⟩; simp only [Int.toNat_natCast]) | (go_at_call 47; refine (power_any _ (by omega) (by omega) _).mono ?_; rintro e w' ⟨rfl, rfl⟩; simp only [Int.toNat_natCast]))
        go_round
        case rel => exact ⟨j + 1, by omega, by go_num, by rw [HS.out]; go_num⟩
        case measure => simp [intOf]; omega
    · have HE := Lib.hid (show j = 16 by omega)
      have HX := Lib.hid (xm_all a b (by have := A.out; omega) (by have := B.out; omega))
      go_wp2
      go_ret
      exact ⟨ret_int (by rw [HE.out, HX.out]), rfl⟩

set_option maxHeartbeats 400000 in
theorem radd_any (a b : Int) (a0 : 0 ≤ a) (a1 : a < 256) (b0 : 0 ≤ b) (b1 : b < 256) (w : World) :
    Calls Try.prog 20 #[.int .u8 a, .int .u8 b] w fun e w' => e = .returned (.int .u8 (xr a.toNat b.toNat : Int)) ∧ w = w' := by
  have hx : xr a.toNat b.toNat < 256 := Gf.xor_lt (by omega) (by omega)
  go_enter Try.func20, Try.ntmps20
  go_wp2_with (go_at_call 32; refine (sum_any _ _ (by omega) (by omega) (by omega) (by omega) _).mono ?_; rintro e w' ⟨rfl, rfl⟩)
  go_ret
  exact ⟨rfl, rfl⟩

theorem toNat_prod (a p : Nat) : ((a : Int) * (p : Int)).toNat = a * p := by rw [← Int.natCast_mul, Int.toNat_natCast]
theorem toNat_285 (p : Nat) : ((285 : Int) * (p : Int)).toNat = 285 * p := by omega
theorem m1_yes (a b k : Nat) (h : bt b k = 1) : m1 a b (k + 1) = xr (m1 a b k) (a * pw k) := by
  show (if bt b k = 1 then _ else _) = _
  rw [if_pos h]
theorem m1_no (a b k : Nat) (h : ¬ bt b k = 1) : m1 a b (k + 1) = m1 a b k := by
  show (if bt b k = 1 then _ else _) = _
  rw [if_neg h]
theorem m2_yes (n j : Nat) (h : bt (m2 n j) (15 - j) = 1) : m2 n (j + 1) = xr (m2 n j) (285 * pw (15 - j - 8)) := by
  show (if bt (m2 n j) (15 - j) = 1 then _ else _) = _
  rw [if_pos h]
theorem m2_no (n j : Nat) (h : ¬ bt (m2 n j) (15 - j) = 1) : m2 n (j + 1) = m2 n j := by
  show (if bt (m2 n j) (15 - j) = 1 then _ else _) = _
  rw [if_neg h]

set_option maxHeartbeats 1600000 in
set_option maxRecDepth 100000 in
theorem rmul_any (a b : Int) (a0 : 0 ≤ a) (a1 : a < 256) (b0 : 0 ≤ b) (b1 : b < 256) (w : World) :
    Calls Try.prog 38 #[.int .u8 a, .int .u8 b] w fun e w' => e = .returned (.int .u8 (Gf.mul a.toNat b.toNat : Int)) ∧ w = w' := by
  obtain ⟨a, rfl⟩ := Int.eq_ofNat_of_zero_le a0
  obtain ⟨b, rfl⟩ := Int.eq_ofNat_of_zero_le b0
  rw [Int.toNat_natCast, Int.toNat_natCast]
  go_enter Try.func38, Try.ntmps38
  go_wp2
  go_loop [5, 6] (fun n i => ∃ j : Nat, j ≤ 8 ∧ i = .int .i64 j ∧ n = .int .i64 (m1 a b j : Int)) (fun _ i => 8 - (intOf i).toNat)
  case atStart => exact ⟨0, Nat.zero_le _, rfl, rfl⟩
  case round =>
    obtain ⟨j, hj, rfl, rfl⟩ := hrel
    have hm := m1_lt a b j (by omega) (by omega)
    by_cases hlt : j < 8
    · have hp := pw7 j hlt
      by_cases hbit : bt b j = 1
      · have HS := Lib.hid (m1_yes a b j hbit)
        have hq : a * pw j ≤ 255 * 128 := Nat.mul_le_mul (by omega) hp
        have hbb : (((bt b j : Nat) : Int) == 1) = true := by simp [hbit]
        have hq1 : (0 : Int) ≤ (a : Int) * (pw j : Int) := Int.mul_nonneg (by omega) (by omega)
        have hq2 : (a : Int) * (pw j : Int) ≤ 32640 := by rw [← Int.natCast_mul]; omega
        clear hbit hq
        go_wp2_with (first | (go_at_call 46; refine (bit_any _ _ (by omega) (by omega) (by omega) (by omega) _).mono ?_; rintro e w' ⟨rfl, rfl⟩; simp only [Int.toNat_natCast]) | (go_at_call 47; refine (power_any _ (by omega) (by omega) _).mono ?_; rintro e w' ⟨rfl, rfl⟩; simp only [Int.toNat_natCast]) | (go_at_call 32; refine (sum_any _ _ (by omega) (by omega) (by omega) (by omega) _).mono ?_; rintro e w' ⟨rfl, rfl⟩; simp only [Int.toNat_natCast, toNat_prod]))
        go_round
        case rel => exact ⟨j + 1, by omega, by go_num, by rw [HS.out]⟩
        case measure => simp [intOf]; omega
      · have HS := Lib.hid (m1_no a b j hbit)
        have hbb : (((bt b j : Nat) : Int) == 1) = false := by rw [beq_eq_false_iff_ne]; omega
        clear hbit
        go_wp2_with (go_at_call 46; refine (bit_any _ _ (by omega) (by omega) (by omega) (by omega) _).mono ?_; rintro e w' ⟨rfl, rfl⟩; simp only [Int.toNat_natCast])
        go_round
        case rel => exact ⟨j + 1, by omega, by go_num, by rw [HS.out]⟩
        case measure => simp [intOf]; omega
    · have HE := Lib.hid (show j = 8 by omega)
      have HR := Lib.hid (show m2 (m1 a b 8) 8 = Gf.mul a b from rmul_eq (by omega) (by omega))
      go_wp2
      clear hm
      go_loop [5, 7] (fun n i => ∃ q : Nat, q ≤ 8 ∧ i = .int .i64 (15 - q : Int) ∧ n = .int .i64 (m2 (m1 a b 8) q : Int)) (fun _ i => (intOf i).toNat)
      case atStart => exact ⟨0, Nat.zero_le _, rfl, by rw [HE.out]; rfl⟩
      case round =>
        obtain ⟨q, hq, rfl, rfl⟩ := hrel
        have hm := m2_lt (m1 a b 8) q (m1_lt a b 8 (by omega) (by omega))
        by_cases hlq : q < 8
        · have e15 : ((15 : Int) - (q : Int)).toNat = 15 - q := by omega
          have e7 : ((15 : Int) - (q : Int) - 8).toNat = 15 - q - 8 := by omega
          have E15 := Lib.hid e15
          have E7 := Lib.hid e7
          clear e15 e7
          have hp := pw7 (15 - q - 8) (by omega)
          have hlt2 := bt_lt (m2 (m1 a b 8) q) (15 - q)
          by_cases hbit : bt (m2 (m1 a b 8) q) (15 - q) = 1
          · have HS := Lib.hid (m2_yes (m1 a b 8) q hbit)
            have hbb : (((bt (m2 (m1 a b 8) q) (15 - q) : Nat) : Int) == 1) = true := by simp [hbit]
            clear hbit
            go_wp2_with (first | (go_at_call 46; refine (bit_any _ _ (by omega) (by omega) (by omega) (by omega) _).mono ?_; rintro e w' ⟨rfl, rfl⟩; simp only [Int.toNat_natCast, E15.out]) | (go_at_call 47; refine (power_any _ (by omega) (by omega) _).mono ?_; rintro e w' ⟨rfl, rfl⟩; simp only [E7.out]) | (go_at_call 32; refine (sum_any _ _ (by omega) (by omega) (by omega) (by omega) _).mono ?_; rintro e w' ⟨rfl, rfl⟩; simp only [Int.toNat_natCast, toNat_285]))
            go_round
            case rel => exact ⟨q + 1, by omega, int_eq (by omega), by rw [HS.out]⟩
            case measure => simp [intOf]; omega
          · have HS := Lib.hid (m2_no (m1 a b 8) q hbit)
            have hbb : (((bt (m2 (m1 a b 8) q) (15 - q) : Nat) : Int) == 1) = false := by rw [beq_eq_false_iff_ne]; omega
            clear hbit
            go_wp2_with (go_at_call 46; refine (bit_any _ _ (by omega) (by omega) (by omega) (by omega) _).mono ?_; rintro e w' ⟨rfl, rfl⟩; simp only [Int.toNat_natCast, E15.out])
            go_round
            case rel => exact ⟨q + 1, by omega, int_eq (by omega), by rw [HS.out]⟩
            case measure => simp [intOf]; omega
        · have HQ := Lib.hid (show q = 8 by omega)
          have hml := Gf.mul_lt a b
          have hb : m2 (m1 a b 8) q < 256 := by rw [HQ.out, HR.out]; exact hml
          clear hm hml
          go_wp2
          go_ret
          exact ⟨ret_int (by rw [HQ.out, HR.out]), rfl⟩
#print axioms rmul_any
end Go.Proofs.Ytlgdajmidcdiaaa
