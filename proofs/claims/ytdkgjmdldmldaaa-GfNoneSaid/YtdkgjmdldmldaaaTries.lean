/-
  The document's own answers, walked: Div, Exp and Log (quartermasterref01), which find theirs by trying.
-/
import Derived.Test.YtdkgjmdldmldaaaField
namespace Go.Proofs.Ytdkgjmdldmldaaa
open Go.RowKit

theorem first_quo {a b c : Nat} (hb : b < 256) (hb0 : 0 < b) (hc : c < 256) (h : Gf.mul c b = a) : c = Gf.quo a b := Gf.mul_only hc hb hb0 h
set_option maxHeartbeats 800000 in
set_option maxRecDepth 100000 in
theorem rdiv_any (a b : Int) (a0 : 0 ≤ a) (a1 : a < 256) (b0 : 0 ≤ b) (b1 : b < 256) (w : World) :
    Calls Try.prog 17 #[.int .u8 a, .int .u8 b] w fun e w' => e = .returned (.tuple #[.int .u8 (qv a.toNat b.toNat), .int .i64 (ze b.toNat)]) ∧ w = w' := by
  obtain ⟨a, rfl⟩ := Int.eq_ofNat_of_zero_le a0
  obtain ⟨b, rfl⟩ := Int.eq_ofNat_of_zero_le b0
  rw [Int.toNat_natCast, Int.toNat_natCast]
  by_cases hb : b = 0
  · subst hb
    go_enter Try.func17, Try.ntmps17
    go_wp2
    go_ret2
    exact ⟨rfl, rfl⟩
  have hb' : ((b : Int) == 0) = false := by rw [beq_eq_false_iff_ne]; omega
  have HB := Lib.hid hb
  have hbp : 0 < b := by omega
  clear hb
  go_enter Try.func17, Try.ntmps17
  go_wp2
  go_loop [6] (fun i => ∃ c : Nat, c ≤ 256 ∧ i = .int .i64 c ∧ Hid (∀ x, x < c → ¬ Gf.mul x b = a)) (fun i => 256 - (intOf i).toNat)
  case atStart => exact ⟨0, Nat.zero_le _, rfl, fun x hx => absurd hx (Nat.not_lt_zero x)⟩
  case round =>
    obtain ⟨c, hc, rfl, HN⟩ := hrel
    by_cases hlt : c < 256
    · by_cases he : Gf.mul c b = a
      · have HQ := Lib.hid (first_quo (by omega) hbp hlt he)
        have he' : (((Gf.mul c b : Nat) : Int) == (a : Int)) = true := by rw [he]; simp
        clear he
        go_wp2_with (go_at_call 15; refine (rmul_any _ _ (by omega) (by omega) (by omega) (by omega) _).mono ?_; rintro e w' ⟨rfl, rfl⟩; simp only [Int.toNat_natCast])
        go_ret2
        refine ⟨ret_pair ?_ (ze_pos HB.out).symm, rfl⟩
        rw [qv_pos HB.out, ← HQ.out]
      · have HS : Hid (∀ x, x < c + 1 → ¬ Gf.mul x b = a) := fun x hx => by
          by_cases e : x = c
          · rw [e]; exact he
          · exact HN x (by omega)
        have he' : (((Gf.mul c b : Nat) : Int) == (a : Int)) = false := by rw [beq_eq_false_iff_ne]; omega
        clear he
        go_wp2_with (go_at_call 15; refine (rmul_any _ _ (by omega) (by omega) (by omega) (by omega) _).mono ?_; rintro e w' ⟨rfl, rfl⟩; simp only [Int.toNat_natCast])
        go_round
        case rel => exact ⟨c + 1, by omega, by go_num, HS⟩
        case measure => simp [intOf]; omega
    · exact absurd (Gf.mul_quo (by omega) (by omega) hbp) (HN.out (Gf.quo a b) (by have := Gf.quo_lt a b; omega))

theorem ex_next (i : Nat) : Gf.mul (Gf.ex i) 2 = Gf.ex (i + 1) := Gf.mul_ex i 1
set_option maxHeartbeats 800000 in
set_option maxRecDepth 100000 in
theorem rlog_any (a : Int) (a0 : 0 ≤ a) (a1 : a < 256) (w : World) :
    Calls Try.prog 20 #[.int .u8 a] w fun e w' => e = .returned (.tuple #[.int .i64 (lv a.toNat), .int .i64 (ze a.toNat)]) ∧ w = w' := by
  obtain ⟨a, rfl⟩ := Int.eq_ofNat_of_zero_le a0
  rw [Int.toNat_natCast]
  go_enter Try.func20, Try.ntmps20
  go_wp2
  go_loop [4, 5] (fun p i => ∃ n : Nat, n ≤ 255 ∧ i = .int .i64 n ∧ p = .int .u8 (Gf.ex n : Int) ∧ Hid (∀ x, x < n → ¬ Gf.ex x = a)) (fun _ i => 255 - (intOf i).toNat)
  case atStart => exact ⟨0, Nat.zero_le _, rfl, rfl, fun x hx => absurd hx (Nat.not_lt_zero x)⟩
  case round =>
    obtain ⟨n, hn, rfl, rfl, HN⟩ := hrel
    have hl := Gf.ex_lt n
    have hp := Gf.ex_pos n
    by_cases hlt : n < 255
    · by_cases he : Gf.ex n = a
      · have HZ := Lib.hid (show ¬ a = 0 by omega)
        have HQ := Lib.hid (show Gf.lg a = n by rw [← he, Gf.lg_ex]; omega)
        have he' : (((Gf.ex n : Nat) : Int) == (a : Int)) = true := by rw [he]; simp
        clear he
        go_wp2
        go_ret2
        refine ⟨ret_pair ?_ (ze_pos HZ.out).symm, rfl⟩
        rw [lv_pos HZ.out, HQ.out]
      · have HS : Hid (∀ x, x < n + 1 → ¬ Gf.ex x = a) := fun x hx => by
          by_cases e : x = n
          · rw [e]; exact he
          · exact HN x (by omega)
        have he' : (((Gf.ex n : Nat) : Int) == (a : Int)) = false := by rw [beq_eq_false_iff_ne]; omega
        have HE := Lib.hid (ex_next n)
        clear he
        go_wp2_with (go_at_call 15; refine (rmul_any _ _ (by omega) (by omega) (by omega) (by omega) _).mono ?_; rintro e w' ⟨rfl, rfl⟩; simp only [Int.toNat_natCast]; rw [show (2 : Int).toNat = 2 from rfl, HE.out])
        go_round
        case rel => exact ⟨n + 1, by omega, by go_num, rfl, HS⟩
        case measure => simp [intOf]; omega
    · have hz : a = 0 := by
        by_cases hz : a = 0
        · exact hz
        · exact absurd (Gf.ex_lg (a := a) (by omega) (by omega)) (HN.out (Gf.lg a) (by have := Gf.lg_lt (a := a) (by omega) (by omega); omega))
      have HZ := Lib.hid hz
      clear hz
      go_wp2
      go_ret2
      rw [HZ.out]
      exact ⟨rfl, rfl⟩

set_option maxHeartbeats 1600000 in
set_option maxRecDepth 100000 in
theorem rexp_any (n : Int) (n0 : -9223372036854775808 ≤ n) (n1 : n ≤ 9223372036854775807) (w : World) :
    Calls Try.prog 22 #[.int .i64 n] w fun e w' => e = .returned (.int .u8 (Gf.ex (er n) : Int)) ∧ w = w' := by
  have hlt := er_lt n
  obtain ⟨k, hk⟩ : ∃ k, k = er n := ⟨_, rfl⟩
  by_cases hn : 0 ≤ n
  · have e1 : (k : Int) ≤ n % 255 := by rw [hk]; unfold er; omega
    have e2 : n % 255 ≤ (k : Int) := by rw [hk]; unfold er; omega
    have h1 : 0 ≤ n % 255 := by omega
    have HK := Lib.hid hk
    clear hk hlt
    go_enter Try.func22, Try.ntmps22
    go_wp2
    go_loop [4, 5] (fun a i => ∃ j : Nat, j ≤ k ∧ i = .int .i64 j ∧ a = .int .u8 (Gf.ex j : Int)) (fun _ i => k - (intOf i).toNat)
    case atStart => exact ⟨0, Nat.zero_le _, rfl, rfl⟩
    case round =>
      obtain ⟨j, hj, rfl, rfl⟩ := hrel
      have hl := Gf.ex_lt j
      by_cases hlt : j < k
      · have HE := Lib.hid (ex_next j)
        go_wp2_with (go_at_call 15; refine (rmul_any _ _ (by omega) (by omega) (by omega) (by omega) _).mono ?_; rintro e w' ⟨rfl, rfl⟩; simp only [Int.toNat_natCast]; rw [show (2 : Int).toNat = 2 from rfl, HE.out])
        go_round
        case rel => exact ⟨j + 1, by omega, by go_num, rfl⟩
        case measure => simp [intOf]; omega
      · have HJ := Lib.hid (show k = j by omega)
        go_wp2
        go_ret
        exact ⟨ret_int (by rw [← HK.out, HJ.out]), rfl⟩
  · rcases er_neg n (by omega) with ⟨h1, h2, h3⟩ | ⟨h1, h2⟩
    · have e1 : (k : Int) ≤ n.tmod 255 + 255 := by rw [hk]; omega
      have e2 : n.tmod 255 + 255 ≤ (k : Int) := by rw [hk]; omega
      have HK := Lib.hid hk
      clear hk hlt h3
      go_enter Try.func22, Try.ntmps22
      go_wp2
      go_loop [4, 5] (fun a i => ∃ j : Nat, j ≤ k ∧ i = .int .i64 j ∧ a = .int .u8 (Gf.ex j : Int)) (fun _ i => k - (intOf i).toNat)
      case atStart => exact ⟨0, Nat.zero_le _, rfl, rfl⟩
      case round =>
        obtain ⟨j, hj, rfl, rfl⟩ := hrel
        have hl := Gf.ex_lt j
        by_cases hlt : j < k
        · have HE := Lib.hid (ex_next j)
          go_wp2_with (go_at_call 15; refine (rmul_any _ _ (by omega) (by omega) (by omega) (by omega) _).mono ?_; rintro e w' ⟨rfl, rfl⟩; simp only [Int.toNat_natCast]; rw [show (2 : Int).toNat = 2 from rfl, HE.out])
          go_round
          case rel => exact ⟨j + 1, by omega, by go_num, rfl⟩
          case measure => simp [intOf]; omega
        · have HJ := Lib.hid (show k = j by omega)
          go_wp2
          go_ret
          exact ⟨ret_int (by rw [← HK.out, HJ.out]), rfl⟩
    · have hk0 : k = 0 := by omega
      have HK := Lib.hid hk
      clear hk hlt h2
      subst hk0
      go_enter Try.func22, Try.ntmps22
      go_wp2
      refine wp_loop_rounds 1 ?_
      rw [rounds_succ]
      go_wp2
      go_ret
      exact ⟨ret_int (by rw [← HK.out]; rfl), rfl⟩
#print axioms rdiv_any
#print axioms rlog_any
#print axioms rexp_any
end Go.Proofs.Ytdkgjmdldmldaaa
