/-
  The product by polynomials, bit by bit, is the product by powers of two. Plain numbers; no program is named here.
-/
import Derived.Test.YtlgdajmidcdiaaaMath
namespace Go.Proofs.Ytlgdajmidcdiaaa

def pw (k : Nat) : Nat := 2 ^ k
def sh (a k : Nat) : Nat := a / 2 ^ k
def bt (a k : Nat) : Nat := a / 2 ^ k % 2
def xr (a b : Nat) : Nat := a ^^^ b
def xm (a b k : Nat) : Nat := (a ^^^ b) % 2 ^ k

theorem pw_le (k : Nat) (h : k ≤ 16) : pw k ≤ 65536 := by
  have := Nat.pow_le_pow_right (show 0 < 2 by omega) h
  unfold pw
  omega
theorem pw_succ (k : Nat) : pw (k + 1) = pw k * 2 := Nat.pow_succ 2 k
theorem pw_pos (k : Nat) : 0 < pw k := Nat.pow_pos (by omega)
theorem half (a j : Nat) : sh a (j + 1) = sh a j / 2 := by unfold sh; rw [Nat.pow_succ, Nat.div_div_eq_div_mul]
theorem sh_le (a j : Nat) : sh a j ≤ a := Nat.div_le_self _ _
theorem bt_lt (a k : Nat) : bt a k < 2 := Nat.mod_lt _ (by omega)
theorem bt_ne (a b k : Nat) : (bt a k = bt b k) ↔ (a ^^^ b).testBit k = false := by
  unfold bt
  rw [Nat.testBit_xor, Nat.testBit_eq_decide_div_mod_eq, Nat.testBit_eq_decide_div_mod_eq]
  have h1 := Nat.mod_two_eq_zero_or_one (a / 2 ^ k)
  have h2 := Nat.mod_two_eq_zero_or_one (b / 2 ^ k)
  rcases h1 with h1 | h1 <;> rcases h2 with h2 | h2 <;> simp [h1, h2]
theorem xm_same (a b k : Nat) (h : bt a k = bt b k) : xm a b (k + 1) = xm a b k := by
  unfold xm
  have := (bt_ne a b k).1 h
  rw [Nat.testBit_eq_decide_div_mod_eq] at this
  have h2 := Nat.mod_two_eq_zero_or_one ((a ^^^ b) / 2 ^ k)
  rw [Nat.mod_pow_succ]
  rcases h2 with h2 | h2
  · rw [h2]; rfl
  · rw [h2] at this; simp at this
theorem xm_other (a b k : Nat) (h : ¬ bt a k = bt b k) : xm a b (k + 1) = xm a b k + pw k := by
  unfold xm pw
  have h2 := Nat.mod_two_eq_zero_or_one ((a ^^^ b) / 2 ^ k)
  rw [Nat.mod_pow_succ]
  rcases h2 with h2 | h2
  · exact absurd ((bt_ne a b k).2 (by rw [Nat.testBit_eq_decide_div_mod_eq, h2]; rfl)) h
  · rw [h2, Nat.mul_one]
theorem xm_lt (a b k : Nat) : xm a b k < pw k := Nat.mod_lt _ (Nat.pow_pos (by omega))
theorem xm_all (a b : Nat) (ha : a < 65536) (hb : b < 65536) : xm a b 16 = xr a b := Nat.mod_eq_of_lt (Nat.xor_lt_two_pow (by omega) (by omega))
theorem xr_lt {a b : Nat} (ha : a < 65536) (hb : b < 65536) : xr a b < 65536 := Nat.xor_lt_two_pow (n := 16) ha hb

/-! ### the product: as it stands -/
def m1 (a b : Nat) : Nat → Nat
  | 0 => 0
  | k + 1 => if bt b k = 1 then xr (m1 a b k) (a * pw k) else m1 a b k
def red (n k : Nat) : Nat := if bt n k = 1 then xr n (285 * pw (k - 8)) else n
def m2 (n : Nat) : Nat → Nat
  | 0 => n
  | j + 1 => red (m2 n j) (15 - j)
def rmul (a b : Nat) : Nat := m2 (m1 a b 8) 8

theorem pw7 (k : Nat) (h : k < 8) : pw k ≤ 128 := by
  have := Nat.pow_le_pow_right (show 0 < 2 by omega) (show k ≤ 7 by omega)
  unfold pw
  omega
theorem prod_lt (a k : Nat) (ha : a < 256) (h : k < 8) : a * pw k < 65536 := by
  have := pw7 k h
  have : a * pw k ≤ 255 * 128 := Nat.mul_le_mul (by omega) this
  omega
theorem m1_lt (a b k : Nat) (ha : a < 256) (h : k ≤ 8) : m1 a b k < 65536 := by
  induction k with
  | zero => show 0 < 65536; omega
  | succ k ih =>
    have := ih (by omega)
    unfold m1
    split
    · exact xr_lt this (prod_lt a k ha (by omega))
    · exact this
theorem red_lt (n k : Nat) (hn : n < 65536) (h : k ≤ 15) : red n k < 65536 := by
  unfold red
  split
  · refine xr_lt hn ?_
    have := pw7 (k - 8) (by omega)
    have : 285 * pw (k - 8) ≤ 285 * 128 := Nat.mul_le_mul (by omega) this
    omega
  · exact hn
theorem m2_lt (n j : Nat) (hn : n < 65536) : m2 n j < 65536 := by
  induction j with
  | zero => exact hn
  | succ j ih => exact red_lt _ _ ih (by omega)

/-! ### sums go through -/
theorem bt_xr (a b k : Nat) : bt (xr a b) k = (bt a k + bt b k) % 2 := by
  have e := bt_ne a b k
  have h1 := bt_lt a k
  have h2 := bt_lt b k
  have h3 := bt_lt (xr a b) k
  rw [Nat.testBit_eq_decide_div_mod_eq] at e
  have e' : (bt a k = bt b k) ↔ ¬ bt (xr a b) k = 1 := by
    rw [e]; simp [bt, xr]
  omega
theorem red_xr (a b k : Nat) : red (xr a b) k = xr (red a k) (red b k) := by
  unfold red
  have e := bt_xr a b k
  have h1 := bt_lt a k
  have h2 := bt_lt b k
  generalize 285 * pw (k - 8) = p
  by_cases ha : bt a k = 1 <;> by_cases hb : bt b k = 1
  · rw [if_neg (by omega), if_pos ha, if_pos hb]
    unfold xr
    rw [show a ^^^ p ^^^ (b ^^^ p) = a ^^^ b ^^^ (p ^^^ p) by ac_rfl, Nat.xor_self, Nat.xor_zero]
  · rw [if_pos (by omega), if_pos ha, if_neg hb]
    unfold xr; ac_rfl
  · rw [if_pos (by omega), if_neg ha, if_pos hb]
    unfold xr; ac_rfl
  · rw [if_neg (by omega), if_neg ha, if_neg hb]
theorem m2_xr (a b j : Nat) : m2 (xr a b) j = xr (m2 a j) (m2 b j) := by
  induction j with
  | zero => rfl
  | succ j ih => simp only [m2, ih, red_xr]
theorem m2_one' : (List.range 256).all (fun a => (List.range 8).all fun k => m2 (a * pw k) 8 == Gf.itd k a) = true := by decide +kernel
theorem m2_one {a k : Nat} (ha : a < 256) (hk : k < 8) : m2 (a * pw k) 8 = Gf.itd k a := by
  have := List.all_eq_true.1 (List.all_eq_true.1 m2_one' a (List.mem_range.2 ha)) k (List.mem_range.2 hk)
  simpa using this
theorem pw_ex' : (List.range 8).all (fun k => Gf.ex k == pw k) = true := by decide +kernel
theorem pw_ex {k : Nat} (hk : k < 8) : Gf.ex k = pw k := by simpa using List.all_eq_true.1 pw_ex' k (List.mem_range.2 hk)
theorem mul_pw {a k : Nat} (ha : a < 256) (hk : k < 8) : Gf.mul a (pw k) = Gf.itd k a := by
  rw [Gf.mul_comm, Gf.mul_itd ha (pw_pos k), ← pw_ex hk, Gf.lg_ex, Nat.mod_eq_of_lt (by omega)]
theorem low_xor' : (List.range 8).all (fun k => (List.range 128).all fun x => !decide (x < pw k) || x ^^^ pw k == x + pw k) = true := by decide +kernel
theorem low_xor {k x : Nat} (hk : k < 8) (hx : x < pw k) : x ^^^ pw k = x + pw k := by
  have := pw7 k hk
  have := List.all_eq_true.1 (List.all_eq_true.1 low_xor' k (List.mem_range.2 hk)) x (List.mem_range.2 (by omega))
  simpa [hx] using this
theorem m1_part (a b k : Nat) (ha : a < 256) (hk : k ≤ 8) : m2 (m1 a b k) 8 = Gf.mul a (b % pw k) := by
  induction k with
  | zero =>
    show m2 0 8 = Gf.mul a (b % 1)
    rw [Nat.mod_one, Gf.mul_zero]; decide +kernel
  | succ k ih =>
    have ih := ih (by omega)
    have hm : b % pw k < pw k := Nat.mod_lt _ (pw_pos k)
    have h7 := pw7 k (by omega)
    have e : b % pw (k + 1) = b % pw k + pw k * bt b k := by unfold pw bt; rw [Nat.mod_pow_succ]
    have h2 := bt_lt b k
    unfold m1
    by_cases h : bt b k = 1
    · rw [if_pos h, m2_xr, ih, m2_one ha (by omega), ← mul_pw ha (by omega)]
      unfold xr
      rw [← Gf.mul_xor ha (by omega) (by omega), low_xor (by omega) hm, e, h, Nat.mul_one]
    · rw [if_neg h, ih, e, show bt b k = 0 by omega, Nat.mul_zero, Nat.add_zero]
theorem rmul_eq {a b : Nat} (ha : a < 256) (hb : b < 256) : rmul a b = Gf.mul a b := by
  unfold rmul
  rw [m1_part a b 8 ha (by omega), Nat.mod_eq_of_lt (by show b < 256; omega)]
#print axioms rmul_eq
end Go.Proofs.Ytlgdajmidcdiaaa
