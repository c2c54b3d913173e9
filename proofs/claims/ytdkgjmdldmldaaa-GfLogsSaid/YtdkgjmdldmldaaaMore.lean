/-
  More laws of layer 1 (gf), walked out of the contracts of what they call.
-/
import Derived.Test.YtdkgjmdldmldaaaLaws
import Derived.Test.YtdkgjmdldmldaaaTries
namespace Go.Proofs.Ytdkgjmdldmldaaa
open Go.RowKit

set_option maxHeartbeats 800000 in
theorem gfParts_any (a b : Int) (a0 : 0 ≤ a) (a1 : a < 256) (b0 : 0 ≤ b) (b1 : b < 256) (w : World) :
    Calls Try.prog 4 #[.int .u8 a, .int .u8 b] w (TruePost w) := by
  go_enter Try.func4, Try.ntmps4
  go_wp2_with fail
  refine (awake_any _).mono ?_
  rintro e w1 ⟨rfl, hg1⟩
  go_wp2_with fail
  refine (new_any _).mono ?_
  rintro e w2 ⟨rfl, hr, hg2⟩
  have hv := Rv.full hr
  clear hr
  go_wp2_with fail
  refine (div_any _ _ _ a0 a1 b0 b1 _ hv).mono ?_
  rintro e w3 ⟨rfl, hg3⟩
  have hv3 := hv.gr hg3
  go_wp2_with fail
  refine (rdiv_any _ _ a0 a1 b0 b1 _).mono ?_
  rintro e w' ⟨rfl, rfl⟩
  go_wp2_with fail
  refine (inv_any _ _ b0 b1 _ hv3).mono ?_
  rintro e w4 ⟨rfl, hg4⟩
  go_wp2_with fail
  refine (rdiv_any _ _ (by omega) (by omega) b0 b1 _).mono ?_
  rintro e w' ⟨rfl, rfl⟩
  rw [show (1 : Int).toNat = 1 from rfl]
  go_wp2
  go_ret
  exact ⟨rfl, ((hg1.next hg2).next hg3).next hg4⟩

set_option maxHeartbeats 800000 in
theorem gfPowers_any (n a : Int) (n0 : -9223372036854775808 ≤ n) (n1 : n ≤ 9223372036854775807) (a0 : 0 ≤ a) (a1 : a < 256) (w : World) :
    Calls Try.prog 5 #[.int .i64 n, .int .u8 a] w (TruePost w) := by
  go_enter Try.func5, Try.ntmps5
  go_wp2_with fail
  refine (awake_any _).mono ?_
  rintro e w1 ⟨rfl, hg1⟩
  go_wp2_with fail
  refine (new_any _).mono ?_
  rintro e w2 ⟨rfl, hr, hg2⟩
  have hv := Rv.full hr
  clear hr
  go_wp2_with fail
  refine (log_any _ _ a0 a1 _ hv).mono ?_
  rintro e w3 ⟨rfl, hg3⟩
  have hv3 := hv.gr hg3
  go_wp2_with fail
  refine (rlog_any _ a0 a1 _).mono ?_
  rintro e w' ⟨rfl, rfl⟩
  go_wp2_with fail
  refine (exp_any _ _ n0 n1 _ hv3).mono ?_
  rintro e w4 ⟨rfl, hg4⟩
  go_wp2_with fail
  refine (rexp_any _ n0 n1 _).mono ?_
  rintro e w' ⟨rfl, rfl⟩
  go_wp2
  go_ret
  exact ⟨rfl, ((hg1.next hg2).next hg3).next hg4⟩

set_option maxHeartbeats 1600000 in
set_option maxRecDepth 100000 in
theorem gfNone_any (a b n : Int) (a0 : 0 ≤ a) (a1 : a < 256) (b0 : 0 ≤ b) (b1 : b < 256) (n0 : -9223372036854775808 ≤ n) (n1 : n ≤ 9223372036854775807) (w : World) :
    Calls Try.prog 9 #[.int .u8 a, .int .u8 b, .int .i64 n] w (TruePost w) := by
  have hz := zf_run
  go_enter Try.func9, Try.ntmps9
  go_wp2_with fail
  refine (awake_any _).mono ?_
  rintro e w1 ⟨rfl, hg1⟩
  go_wp2_with fail
  have hg2 := (Gr.refl w1.heap.size w1).alloc (Nat.le_refl _) zf 40
  have hz2 : Rv (w1.alloc (.cells zf 40)) (.pointer (some ⟨w1.heap.size, 0, none⟩)) :=
    Or.inr ⟨_, rfl, (new_row w1).lt, Or.inl (((new_row w1).cell (i := 0) (by omega)).trans (by rw [fv_zero]))⟩
  clear hz
  generalize w1.alloc (.cells zf 40) = w2 at *
  refine (div_any _ _ _ a0 a1 b0 b1 _ (Or.inl rfl)).mono ?_
  rintro e w3 ⟨rfl, hg3⟩
  have hz3 := hz2.gr hg3
  go_wp2_with fail
  refine (div_any _ _ _ a0 a1 b0 b1 _ hz3).mono ?_
  rintro e w4 ⟨rfl, hg4⟩
  have hz4 := hz3.gr hg4
  go_wp2_with fail
  refine (log_any _ _ a0 a1 _ (Or.inl rfl)).mono ?_
  rintro e w5 ⟨rfl, hg5⟩
  have hz5 := hz4.gr hg5
  go_wp2_with fail
  refine (log_any _ _ a0 a1 _ hz5).mono ?_
  rintro e w6 ⟨rfl, hg6⟩
  have hz6 := hz5.gr hg6
  go_wp2_with fail
  refine (rmul_any _ _ a0 a1 b0 b1 _).mono ?_
  rintro e w' ⟨rfl, rfl⟩
  go_wp2_with fail
  refine (rexp_any _ n0 n1 _).mono ?_
  rintro e w' ⟨rfl, rfl⟩
  go_wp2_with fail
  refine (mul_any _ _ _ a0 a1 b0 b1 _ (Or.inl rfl)).mono ?_
  rintro e w7 ⟨rfl, hg7⟩
  have hz7 := hz6.gr hg7
  go_wp2_with fail
  refine (mul_any _ _ _ a0 a1 b0 b1 _ hz7).mono ?_
  rintro e w8 ⟨rfl, hg8⟩
  have hz8 := hz7.gr hg8
  go_wp2_with fail
  refine (exp_any _ _ n0 n1 _ (Or.inl rfl)).mono ?_
  rintro e w9 ⟨rfl, hg9⟩
  have hz9 := hz8.gr hg9
  go_wp2_with fail
  refine (exp_any _ _ n0 n1 _ hz9).mono ?_
  rintro e w10 ⟨rfl, hg10⟩
  have hz10 := hz9.gr hg10
  go_wp2
  go_ret
  exact ⟨rfl, (((((((((hg1.next hg2).next hg3).next hg4).next hg5).next hg6).next hg7).next hg8).next hg9).next hg10)⟩

/-! ### GfBack -/
theorem back1 {a b : Nat} (ha : a < 256) (hb : b < 256) (h : ¬ b = 0) : qv (Gf.mul a b) b = (a : Int) := by rw [qv_pos h, Gf.quo_mul ha hb (by omega)]
theorem back2 {a b : Nat} (ha : a < 256) (hb : b < 256) (h : ¬ b = 0) : Gf.mul (qv a b).toNat b = a := by rw [qv_pos h, Int.toNat_natCast, Gf.mul_quo ha hb (by omega)]
theorem back3 {a b : Nat} (ha : a < 256) (hb : b < 256) (h : ¬ b = 0) : (Gf.mul a (qv 1 b).toNat : Int) = qv a b := by rw [qv_pos h, qv_pos h, Int.toNat_natCast, Gf.mul_inv ha hb (by omega)]
theorem qv_in (a b : Nat) : 0 ≤ qv a b ∧ qv a b < 256 := by
  unfold qv
  have := Gf.quo_lt a b
  split <;> omega
set_option maxHeartbeats 800000 in
theorem gfBack_zero (a : Int) (a0 : 0 ≤ a) (a1 : a < 256) (w : World) :
    Calls Try.prog 7 #[.int .u8 a, .int .u8 0] w (TruePost w) := by
  go_enter Try.func7, Try.ntmps7
  go_wp2_with fail
  refine (awake_any _).mono ?_
  rintro e w1 ⟨rfl, hg1⟩
  go_wp2_with fail
  refine (new_any _).mono ?_
  rintro e w2 ⟨rfl, hr, hg2⟩
  have hv := Rv.full hr
  clear hr
  go_wp2_with fail
  refine (mul_any _ _ _ a0 a1 (by omega) (by omega) _ hv).mono ?_
  rintro e w3 ⟨rfl, hg3⟩
  have hv3 := hv.gr hg3
  rw [show (0 : Int).toNat = 0 from rfl, Gf.mul_zero]
  go_wp2_with fail
  refine (div_any _ _ _ (by omega) (by omega) (by omega) (by omega) _ hv3).mono ?_
  rintro e w4 ⟨rfl, hg4⟩
  rw [show (0 : Int).toNat = 0 from rfl, show qv 0 0 = 0 from rfl, show ze 0 = 8 from rfl]
  go_wp2
  go_ret
  exact ⟨rfl, ((hg1.next hg2).next hg3).next hg4⟩
set_option maxHeartbeats 1600000 in
set_option maxRecDepth 100000 in
theorem gfBack_other (a b : Nat) (a1 : (a : Int) < 256) (b1 : (b : Int) < 256) (hb : ¬ b = 0) (w : World) :
    Calls Try.prog 7 #[.int .u8 (a : Int), .int .u8 (b : Int)] w (TruePost w) := by
  have hb' : ((b : Int) == 0) = false := by rw [beq_eq_false_iff_ne]; omega
  have H1 := Lib.hid (back1 (a := a) (b := b) (by omega) (by omega) hb)
  have H2 := Lib.hid (back2 (a := a) (b := b) (by omega) (by omega) hb)
  have H3 := Lib.hid (back3 (a := a) (b := b) (by omega) (by omega) hb)
  have H4 := Lib.hid (back2 (a := 1) (b := b) (by omega) (by omega) hb)
  have H5 := Lib.hid (ze_pos hb)
  have q := Gf.mul_lt a b
  have q1 := qv_in a b
  have q2 := qv_in 1 b
  have HP := Lib.hid (show ((((Gf.mul a b : Nat) : Int) != 0) = false ∧ (((a : Nat) : Int) == 0) = true) ∨ (((Gf.mul a b : Nat) : Int) != 0) = true from by
    by_cases h : a = 0
    · exact Or.inl (by rw [h, Gf.zero_mul]; exact ⟨rfl, rfl⟩)
    · have := Gf.mul_pos (a := a) (b := b) (by omega) (by omega)
      exact Or.inr (by rw [bne_iff_ne]; omega))
  clear hb
  go_enter Try.func7, Try.ntmps7
  go_wp2_with fail
  refine (awake_any _).mono ?_
  rintro e w1 ⟨rfl, hg1⟩
  go_wp2_with fail
  refine (new_any _).mono ?_
  rintro e w2 ⟨rfl, hr, hg2⟩
  have hv := Rv.full hr
  clear hr
  go_wp2_with fail
  refine (mul_any _ _ _ (by omega) a1 (by omega) b1 _ hv).mono ?_
  rintro e w3 ⟨rfl, hg3⟩
  have hv3 := hv.gr hg3
  simp only [Int.toNat_natCast]
  go_wp2_with fail
  refine (div_any _ _ _ (by omega) (by omega) (by omega) (by omega) _ hv3).mono ?_
  rintro e w4 ⟨rfl, hg4⟩
  have hv4 := hv3.gr hg4
  simp only [Int.toNat_natCast]
  rw [H1.out, H5.out]
  go_wp2_with fail
  refine (div_any _ _ _ (by omega) (by omega) (by omega) (by omega) _ hv4).mono ?_
  rintro e w5 ⟨rfl, hg5⟩
  have hv5 := hv4.gr hg5
  simp only [Int.toNat_natCast]
  rw [H5.out]
  go_wp2_with fail
  refine (inv_any _ _ (by omega) (by omega) _ hv5).mono ?_
  rintro e w6 ⟨rfl, hg6⟩
  have hv6 := hv5.gr hg6
  simp only [Int.toNat_natCast]
  rw [H5.out]
  rcases HP.out with ⟨HP', HP2⟩ | HP'
  all_goals clear HP
  all_goals
    go_wp2_with fail
    refine (mul_any _ _ _ (by omega) (by omega) (by omega) (by omega) _ hv6).mono ?_
    rintro e w7 ⟨rfl, hg7⟩
    have hv7 := hv6.gr hg7
    simp only [Int.toNat_natCast]
    rw [H2.out]
    go_wp2_with fail
    refine (mul_any _ _ _ (by omega) (by omega) (by omega) (by omega) _ hv7).mono ?_
    rintro e w8 ⟨rfl, hg8⟩
    have hv8 := hv7.gr hg8
    simp only [Int.toNat_natCast]
    rw [H4.out]
    go_wp2_with fail
    refine (mul_any _ _ _ (by omega) (by omega) (by omega) (by omega) _ hv8).mono ?_
    rintro e w9 ⟨rfl, hg9⟩
    simp only [Int.toNat_natCast]
    rw [H3.out]
    go_wp2
    go_ret
    exact ⟨rfl, (((((((hg1.next hg2).next hg3).next hg4).next hg5).next hg6).next hg7).next hg8).next hg9⟩
theorem gfBack_any (a b : Int) (a0 : 0 ≤ a) (a1 : a < 256) (b0 : 0 ≤ b) (b1 : b < 256) (w : World) :
    Calls Try.prog 7 #[.int .u8 a, .int .u8 b] w (TruePost w) := by
  obtain ⟨a, rfl⟩ := Int.eq_ofNat_of_zero_le a0
  obtain ⟨b, rfl⟩ := Int.eq_ofNat_of_zero_le b0
  by_cases hb : b = 0
  · subst hb
    exact gfBack_zero a a0 a1 w
  · exact gfBack_other a b a1 b1 hb w

/-! ### GfLogs -/
theorem lg1 (n m : Int) : Gf.mul (Gf.ex (er n)) (Gf.ex (er m)) = Gf.ex (er (n + m)) := by
  rw [Gf.mul_ex, ← Gf.ex_mod]
  congr 1
  unfold er
  omega
theorem lg2 (n : Int) : lv (Gf.ex (er n)) = (er n : Int) := by
  have := Gf.ex_pos (er n)
  rw [lv_pos (by omega), Gf.lg_ex, Nat.mod_eq_of_lt (er_lt n)]
theorem lg3 (n : Int) : ze (Gf.ex (er n)) = 0 := ze_pos (by have := Gf.ex_pos (er n); omega)
theorem lg4 (n : Int) : ((n - (er n : Int)).tmod 255 == 0) = true := by
  rw [beq_iff_eq]
  apply Int.tmod_eq_zero_of_dvd
  unfold er
  omega
set_option maxHeartbeats 800000 in
theorem gfLogs_out (n m : Int) (h : n < -1000000 ∨ (-1000000 ≤ n ∧ 1000000 < n) ∨ (-1000000 ≤ n ∧ n ≤ 1000000 ∧ m < -1000000) ∨ (-1000000 ≤ n ∧ n ≤ 1000000 ∧ -1000000 ≤ m ∧ 1000000 < m)) (w : World) :
    Calls Try.prog 8 #[.int .i64 n, .int .i64 m] w (TruePost w) := by
  rcases h with h | ⟨h1, h2⟩ | ⟨h1, h2, h3⟩ | ⟨h1, h2, h3, h4⟩
  all_goals
    go_enter Try.func8, Try.ntmps8
    go_wp2_with fail
    refine (awake_any _).mono ?_
    rintro e w1 ⟨rfl, hg1⟩
    go_wp2
    go_ret
    exact ⟨rfl, hg1⟩
set_option maxHeartbeats 800000 in
set_option maxRecDepth 100000 in
theorem gfLogs_in (n m : Int) (n0 : -1000000 ≤ n) (n1 : n ≤ 1000000) (m0 : -1000000 ≤ m) (m1 : m ≤ 1000000) (w : World) :
    Calls Try.prog 8 #[.int .i64 n, .int .i64 m] w (TruePost w) := by
  have H1 := Lib.hid (lg1 n m)
  have H2 := Lib.hid (lg2 n)
  have H3 := Lib.hid (lg3 n)
  have h4 := lg4 n
  have q := er_lt n
  have q1 := Gf.ex_lt (er n)
  have q2 := Gf.ex_lt (er m)
  go_enter Try.func8, Try.ntmps8
  go_wp2_with fail
  refine (awake_any _).mono ?_
  rintro e w1 ⟨rfl, hg1⟩
  go_wp2_with fail
  refine (new_any _).mono ?_
  rintro e w2 ⟨rfl, hr, hg2⟩
  have hv := Rv.full hr
  clear hr
  go_wp2_with fail
  refine (exp_any _ _ (by omega) (by omega) _ hv).mono ?_
  rintro e w3 ⟨rfl, hg3⟩
  have hv3 := hv.gr hg3
  go_wp2_with fail
  refine (log_any _ _ (by omega) (by omega) _ hv3).mono ?_
  rintro e w4 ⟨rfl, hg4⟩
  have hv4 := hv3.gr hg4
  simp only [Int.toNat_natCast]
  rw [H2.out, H3.out]
  go_wp2_with fail
  refine (exp_any _ _ (by omega) (by omega) _ hv4).mono ?_
  rintro e w5 ⟨rfl, hg5⟩
  have hv5 := hv4.gr hg5
  go_wp2_with fail
  refine (exp_any _ _ (by omega) (by omega) _ hv5).mono ?_
  rintro e w6 ⟨rfl, hg6⟩
  have hv6 := hv5.gr hg6
  go_wp2_with fail
  refine (exp_any _ _ (by omega) (by omega) _ hv6).mono ?_
  rintro e w7 ⟨rfl, hg7⟩
  have hv7 := hv6.gr hg7
  go_wp2_with fail
  refine (mul_any _ _ _ (by omega) (by omega) (by omega) (by omega) _ hv7).mono ?_
  rintro e w8 ⟨rfl, hg8⟩
  simp only [Int.toNat_natCast]
  rw [H1.out]
  go_wp2
  go_ret
  exact ⟨rfl, ((((((hg1.next hg2).next hg3).next hg4).next hg5).next hg6).next hg7).next hg8⟩
theorem gfLogs_any (n m : Int) (w : World) : Calls Try.prog 8 #[.int .i64 n, .int .i64 m] w (TruePost w) := by
  by_cases h : -1000000 ≤ n ∧ n ≤ 1000000 ∧ -1000000 ≤ m ∧ m ≤ 1000000
  · exact gfLogs_in n m h.1 h.2.1 h.2.2.1 h.2.2.2 w
  · exact gfLogs_out n m (by omega) w
#print axioms gfParts_any
#print axioms gfPowers_any
#print axioms gfNone_any
#print axioms gfBack_any
#print axioms gfLogs_any
end Go.Proofs.Ytdkgjmdldmldaaa
