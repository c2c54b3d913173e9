/-
  The document's differ, Sum, Same, Seal and Whole (quartermasterref04), walked.
-/
import Derived.Test.YtennkpjmdhidaaaCrcB
namespace Go.Proofs.Ytennkpjmdhidaaa
open Go.RowKit
set_option linter.unusedVariables false

/-! ### differ -/
def pw (k : Nat) : Nat := 2 ^ k
def dn (a k : Nat) : Nat := a / 2 ^ k
def lo (a b k : Nat) : Nat := (a ^^^ b) % 2 ^ k
theorem pw_succ (k : Nat) : pw (k + 1) = pw k * 2 := Nat.pow_succ ..
theorem pw_le {k : Nat} (h : k ≤ 32) : pw k ≤ 4294967296 := Nat.pow_le_pow_right (n := 2) (by omega) h
theorem dn_succ (a k : Nat) : dn a (k + 1) = dn a k / 2 := by unfold dn; rw [Nat.pow_succ, Nat.div_div_eq_div_mul]
theorem lo_lt (a b k : Nat) : lo a b k < pw k := Nat.mod_lt _ (Nat.pow_pos (by omega))
theorem lo_bit (a b k : Nat) : lo a b (k + 1) = lo a b k + pw k * ((dn a k % 2) ^^^ (dn b k % 2)) := by
  unfold lo pw dn
  rw [Nat.pow_succ, Nat.mod_mul, Nat.xor_div_two_pow, Crc.xor_odd]
theorem lo_yes {a b k : Nat} (h : ¬ dn a k % 2 = dn b k % 2) : lo a b (k + 1) = lo a b k + pw k := by
  rw [lo_bit]
  rcases Nat.mod_two_eq_zero_or_one (dn a k) with ha | ha <;> rcases Nat.mod_two_eq_zero_or_one (dn b k) with hb | hb <;> rw [ha, hb] at h ⊢
  · exact absurd rfl h
  · simp
  · simp
  · exact absurd rfl h
theorem lo_no {a b k : Nat} (h : dn a k % 2 = dn b k % 2) : lo a b (k + 1) = lo a b k := by
  rw [lo_bit, h, Nat.xor_self]; simp
theorem lo_all {a b : Nat} (ha : a < 4294967296) (hb : b < 4294967296) : lo a b 32 = a ^^^ b := Nat.mod_eq_of_lt (Crc.xor_lt ha hb)
set_option maxHeartbeats 800000 in
set_option maxRecDepth 100000 in
theorem differ_any (a b : Nat) (ha : a < 4294967296) (hb : b < 4294967296) (w : World) : Calls Try.prog 36 #[.int .i64 (a : Int), .int .i64 (b : Int)] w fun e w' => e = .returned (.int .i64 ((a ^^^ b : Nat) : Int)) ∧ w = w' := by
  have HE := Lib.hid (lo_all ha hb)
  have H0 := Lib.hid (show dn a 0 = a ∧ dn b 0 = b ∧ lo a b 0 = 0 ∧ pw 0 = 1 from ⟨Nat.div_one a, Nat.div_one b, Nat.mod_one _, rfl⟩)
  obtain ⟨T, hT⟩ : ∃ T : Nat, T = 4294967296 := ⟨_, rfl⟩
  have HP0 := Lib.hid (show (∀ k, k ≤ 32 → pw k ≤ T) ∧ (∀ k, dn a k ≤ T) ∧ (∀ k, dn b k ≤ T) from ⟨fun k hk => by rw [hT]; exact pw_le hk, fun k => by rw [hT]; exact Nat.le_trans (Nat.div_le_self _ _) (Nat.le_of_lt ha), fun k => by rw [hT]; exact Nat.le_trans (Nat.div_le_self _ _) (Nat.le_of_lt hb)⟩)
  have hT' : T ≤ 4294967296 := by omega
  clear ha hb hT
  go_enter Try.func36, Try.ntmps36
  go_wp2
  go_loop [0, 1, 5, 6, 7] (fun x y n p i => ∃ k : Nat, k ≤ 32 ∧ i = .int .i64 k ∧ x = .int .i64 (dn a k : Int) ∧ y = .int .i64 (dn b k : Int) ∧ n = .int .i64 (lo a b k : Int) ∧ p = .int .i64 (pw k : Int)) (fun _ _ _ _ i => 32 - (intOf i).toNat)
  case atStart => exact ⟨0, Nat.zero_le _, rfl, by rw [H0.out.1], by rw [H0.out.2.1], by rw [H0.out.2.2.1]; rfl, by rw [H0.out.2.2.2]; rfl⟩
  case round =>
    obtain ⟨k, hk, rfl, rfl, rfl, rfl, rfl⟩ := hrel
    by_cases hlt : k < 32
    · have hp := HP0.out.1 k hk
      have hda := HP0.out.2.1 k
      have hdb := HP0.out.2.2 k
      have hl := lo_lt a b k
      have HX := Lib.hid (dn_succ a k)
      have HY := Lib.hid (dn_succ b k)
      have HP := Lib.hid (pw_succ k)
      by_cases q : dn a k % 2 = dn b k % 2
      · have HL := Lib.hid (lo_no q)
        have t1 : ((dn a k : Int) % 2 != (dn b k : Int) % 2) = false := by simp; omega
        clear q
        go_wp2
        go_round
        case rel => exact ⟨k + 1, by omega, by go_num, by rw [HX.out]; rfl, by rw [HY.out]; rfl, by rw [HL.out], by rw [HP.out]; go_num⟩
        case measure => simp [intOf]; omega
      · have HL := Lib.hid (lo_yes q)
        have t1 : ((dn a k : Int) % 2 != (dn b k : Int) % 2) = true := by simp; omega
        clear q
        go_wp2
        go_round
        case rel => exact ⟨k + 1, by omega, by go_num, by rw [HX.out]; rfl, by rw [HY.out]; rfl, by rw [HL.out]; go_num, by rw [HP.out]; go_num⟩
        case measure => simp [intOf]; omega
    · obtain rfl : k = 32 := by omega
      go_wp2
      go_ret
      exact ⟨ret_int (by rw [HE.out]), rfl⟩
#print axioms differ_any

/-! ### Sum -/
theorem st_odd_nat {r : Nat} (o : r % 2 = 1) : r / 2 ^^^ 2197175160 = Crc.st r := by unfold Crc.st; rw [if_pos o]
set_option maxHeartbeats 800000 in
set_option maxRecDepth 100000 in
theorem rsum_any (A : Option Addr) (n C : Nat) (z : Nat → Nat) (w : World) (h : RowV w (.slice A n C) n z) : Calls Try.prog 32 #[.slice A n C] w fun e w' => e = .returned (.int .i64 (Crc.sumZ n z : Int)) ∧ w = w' := by
  have HB := Lib.hid h.bytes
  have HV := Lib.hid h
  obtain ⟨_, _, _, hl, _⟩ := id h
  have hl1 := hl.1
  clear h hl
  go_enter Try.func32, Try.ntmps32
  go_wp2
  go_loop [3, 4, 5, 6] (fun r i _ _ => ∃ k : Nat, k ≤ n ∧ i = .int .i64 k ∧ r = .int .i64 (Crc.reg 4294967295 z k : Int)) (fun _ i _ _ => n - (intOf i).toNat)
  case atStart => exact ⟨0, Nat.zero_le _, rfl, rfl⟩
  case round =>
    obtain ⟨k, hk, rfl, rfl⟩ := hrel
    have hRL := Crc.reg_lt (r := 4294967295) (z := z) (by omega) k (fun i hi => HB.out i (by omega))
    by_cases hlt : k < n
    · have hx := HB.out k hlt
      have HN := Lib.hid (show Crc.reg 4294967295 z (k + 1) = Crc.it 8 (Crc.reg 4294967295 z k ^^^ z k) from rfl)
      obtain ⟨R, hR⟩ : ∃ R, R = Crc.reg 4294967295 z k := ⟨_, rfl⟩
      rw [← hR] at hRL HN ⊢
      have HRL := Lib.hid hRL
      have HXL := Lib.hid (Crc.xor_lt hRL (show z k < 4294967296 by omega))
      obtain ⟨_, _, e2, _, h3⟩ := HV.out
      injection e2 with e2 _ _
      subst e2
      obtain ⟨b', o', rfl, h4⟩ := h3 (by omega)
      have c2 := (h4 k hlt).1
      clear h3 h4 hR hRL
      go_wp2_with fail
      refine (differ_any _ _ HRL.out (by omega) _).mono ?_
      rintro e w' ⟨rfl, rfl⟩
      obtain ⟨X, hX⟩ : ∃ X, X = R ^^^ z k := ⟨_, rfl⟩
      rw [← hX] at HN HXL ⊢
      clear hX
      go_wp2
      go_loop [3, 5, 6] (fun r i _ => ∃ j : Nat, j ≤ 8 ∧ i = .int .i64 j ∧ r = .int .i64 (Crc.it j X : Int)) (fun _ i _ => 8 - (intOf i).toNat)
      case atStart => exact ⟨0, Nat.zero_le _, rfl, rfl⟩
      case round =>
        obtain ⟨j, hj, rfl, rfl⟩ := hrel
        by_cases hlt2 : j < 8
        · have HS := Lib.hid (show Crc.it (j + 1) X = Crc.st (Crc.it j X) from rfl)
          have HYL := Lib.hid (Crc.it_lt HXL.out j)
          obtain ⟨Y, hY⟩ : ∃ Y, Y = Crc.it j X := ⟨_, rfl⟩
          rw [← hY] at HS HYL ⊢
          have hYb : Y ≤ 4294967296 := by have := HYL.out; omega
          clear hY
          by_cases q : Y % 2 = 1
          · have t1 : ((Y : Int) % 2 == 1) = true := by simp; omega
            have HQ := Lib.hid (st_odd_nat q)
            clear q
            go_wp2_with fail
            refine (differ_any (Y / 2) 2197175160 (by have := HYL.out; omega) (by omega) _).mono ?_
            rintro e w' ⟨rfl, rfl⟩
            go_wp2
            go_round
            case rel => exact ⟨j + 1, by omega, by go_num, by rw [HS.out, ← HQ.out]⟩
            case measure => simp [intOf]; omega
          · have t1 : ((Y : Int) % 2 == 1) = false := by simp; omega
            have HQ := Lib.hid (st_even q)
            clear q
            go_wp2
            go_round
            case rel => exact ⟨j + 1, by omega, by go_num, by rw [HS.out]; exact int_eq HQ.out⟩
            case measure => simp [intOf]; omega
        · obtain rfl : j = 8 := by omega
          go_wp2
          go_round
          case rel => exact ⟨k + 1, by omega, by go_num, by rw [HN.out]⟩
          case measure => simp [intOf]; omega
    · obtain rfl : k = n := by omega
      have HE := Lib.hid (show (4294967295 : Int) - (Crc.reg 4294967295 z k : Int) = (Crc.sumZ k z : Int) by
        unfold Crc.sumZ; rw [Crc.not_xor hRL]; omega)
      go_wp2
      go_ret
      exact ⟨ret_int HE.out, rfl⟩
#print axioms rsum_any
end Go.Proofs.Ytennkpjmdhidaaa
