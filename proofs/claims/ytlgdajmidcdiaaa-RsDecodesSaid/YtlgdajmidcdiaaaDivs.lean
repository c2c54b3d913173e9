/-
  The document's own answer, walked: Div (quartermasterref01), which finds its own by trying.
-/
import Derived.Test.YtlgdajmidcdiaaaField
namespace Go.Proofs.Ytlgdajmidcdiaaa
open Go.RowKit

theorem first_quo {a b c : Nat} (hb : b < 256) (hb0 : 0 < b) (hc : c < 256) (h : Gf.mul c b = a) : c = Gf.quo a b := Gf.mul_only hc hb hb0 h
set_option maxHeartbeats 800000 in
set_option maxRecDepth 100000 in
theorem rdiv_any (a b : Int) (a0 : 0 ≤ a) (a1 : a < 256) (b0 : 0 ≤ b) (b1 : b < 256) (w : World) :
    Calls Try.prog 44 #[.int .u8 a, .int .u8 b] w fun e w' => e = .returned (.tuple #[.int .u8 (qv a.toNat b.toNat), .int .i64 (ze b.toNat)]) ∧ w = w' := by
  obtain ⟨a, rfl⟩ := Int.eq_ofNat_of_zero_le a0
  obtain ⟨b, rfl⟩ := Int.eq_ofNat_of_zero_le b0
  rw [Int.toNat_natCast, Int.toNat_natCast]
  by_cases hb : b = 0
  · subst hb
    go_enter Try.func44, Try.ntmps44
    go_wp2
    go_ret2
    exact ⟨rfl, rfl⟩
  have hb' : ((b : Int) == 0) = false := by rw [beq_eq_false_iff_ne]; omega
  have HB := Lib.hid hb
  have hbp : 0 < b := by omega
  clear hb
  go_enter Try.func44, Try.ntmps44
  go_wp2
  go_loop [6] (fun i => ∃ c : Nat, c ≤ 256 ∧ i = .int .i64 c ∧ Hid (∀ x, x < c → ¬ Gf.mul x b = a)) (fun i => 256 - (intOf i).toNat)
  case atStart => exact ⟨0, Nat.zero_le _, rfl, fun x hx => absurd hx (Nat.not_lt_zero x)⟩
  case round =>
    obtain ⟨c, hc, rfl, HN⟩ := hrel
    by_cases hlt : c < 256
    · by_cases he : Gf.mul c b = a
      · have HQ := Lib.hid (first_quo (by omega) hbp hlt he)
        have he' : (((Gf.mul c b : Nat) : Int) == (a : Int)) = true := by rw [he]; simp
        clear he
        go_wp2_with (go_at_call 38; refine (rmul_any _ _ (by omega) (by omega) (by omega) (by omega) _).mono ?_; rintro e w' ⟨rfl, rfl⟩; simp only [Int.toNat_natCast])
        go_ret2
        refine ⟨ret_pair ?_ (ze_pos HB.out).symm, rfl⟩
        rw [qv_pos HB.out, ← HQ.out]
      · have HS : Hid (∀ x, x < c + 1 → ¬ Gf.mul x b = a) := fun x hx => by
          by_cases e : x = c
          · rw [e]; exact he
          · exact HN x (by omega)
        have he' : (((Gf.mul c b : Nat) : Int) == (a : Int)) = false := by rw [beq_eq_false_iff_ne]; omega
        clear he
        go_wp2_with (go_at_call 38; refine (rmul_any _ _ (by omega) (by omega) (by omega) (by omega) _).mono ?_; rintro e w' ⟨rfl, rfl⟩; simp only [Int.toNat_natCast])
        go_round
        case rel => exact ⟨c + 1, by omega, by go_num, HS⟩
        case measure => simp [intOf]; omega
    · exact absurd (Gf.mul_quo (by omega) (by omega) hbp) (HN.out (Gf.quo a b) (by have := Gf.quo_lt a b; omega))

#print axioms rdiv_any
end Go.Proofs.Ytlgdajmidcdiaaa
