/-
  The field of 256 numbers, in plain numbers: the powers of two, which power a number is, products by them, and the product by polynomials. No program is named here.
-/
namespace Go.Proofs.Ytlgdajmidcdiaaa.Gf

def dbl (a : Nat) : Nat := if 256 ≤ a * 2 then (a * 2) ^^^ 285 else a * 2
def ex : Nat → Nat
  | 0 => 1
  | n + 1 => dbl (ex n)
def lgU : Nat → Nat → Nat
  | 0, _ => 0
  | n + 1, a => if a = ex n then n else lgU n a
def lg (a : Nat) : Nat := lgU 255 a
def mul (a b : Nat) : Nat := if a = 0 ∨ b = 0 then 0 else ex ((lg a + lg b) % 255)

/-! ### all powers, as a list -/
def exL : Nat → Nat → List Nat
  | 0, _ => []
  | k + 1, x => x :: exL k (dbl x)
theorem exL_get (k : Nat) : ∀ (m i : Nat), i < k → (exL k (ex m))[i]? = some (ex (m + i)) := by
  induction k with
  | zero => intro m i h; omega
  | succ k ih =>
    intro m i h
    cases i with
    | zero => simp [exL]
    | succ i =>
      have := ih (m + 1) i (by omega)
      simp only [ex] at this
      simp only [exL, List.getElem?_cons_succ, this]
      congr 2; omega
theorem exL_len (k : Nat) : ∀ x, (exL k x).length = k := by
  induction k with
  | zero => intro x; rfl
  | succ k ih => intro x; simp [exL, ih]

theorem dbl_lt' : (List.range 256).all (fun a => decide (dbl a < 256) && (a == 0 || dbl a != 0)) = true := by decide +kernel
theorem dbl_lt {a : Nat} (h : a < 256) : dbl a < 256 := by
  have := List.all_eq_true.1 dbl_lt' a (List.mem_range.2 h)
  simp at this; exact this.1
theorem dbl_pos {a : Nat} (h : a < 256) (h0 : 0 < a) : 0 < dbl a := by
  have := List.all_eq_true.1 dbl_lt' a (List.mem_range.2 h)
  simp at this; rcases this.2 with h | h <;> omega
theorem ex_lt (n : Nat) : ex n < 256 := by
  induction n with
  | zero => decide
  | succ n ih => exact dbl_lt ih
theorem ex_pos (n : Nat) : 0 < ex n := by
  induction n with
  | zero => decide
  | succ n ih => exact dbl_pos (ex_lt n) ih

theorem exL_all : (List.range 256).all (fun a => a == 0 || (exL 255 1).contains a) = true := by decide +kernel
theorem ex_on {a : Nat} (h : a < 256) (h0 : 0 < a) : ∃ n, n < 255 ∧ ex n = a := by
  have := List.all_eq_true.1 exL_all a (List.mem_range.2 h)
  simp only [Bool.or_eq_true, beq_iff_eq, List.contains_eq_mem, decide_eq_true_eq] at this
  rcases this with h | h
  · omega
  · obtain ⟨i, hi, he⟩ := List.mem_iff_getElem.1 h
    have hl := exL_len 255 1
    refine ⟨i, by omega, ?_⟩
    have := exL_get 255 0 i (by omega)
    simp only [ex, Nat.zero_add] at this
    rw [List.getElem?_eq_getElem hi] at this
    injection this with this
    omega
theorem exL_nodup : (exL 255 1).Nodup := by decide +kernel
theorem ex_inj {i j : Nat} (hi : i < 255) (hj : j < 255) (h : ex i = ex j) : i = j := by
  have hl := exL_len 255 1
  have a := exL_get 255 0 i hi
  have b := exL_get 255 0 j hj
  simp only [ex, Nat.zero_add] at a b
  have := (List.getElem?_inj (i := i) (j := j) (by omega) exL_nodup).1 (by rw [a, b, h])
  exact this

theorem ex_255 : ex 255 = 1 := by decide +kernel
theorem ex_period (m : Nat) : ex (m + 255) = ex m := by
  induction m with
  | zero => rw [Nat.zero_add]; exact ex_255
  | succ m ih =>
    have e : ex (m + 255 + 1) = dbl (ex (m + 255)) := rfl
    rw [show m + 1 + 255 = (m + 255) + 1 by omega, e, ih]
    rfl
theorem ex_mul (k m : Nat) : ex (m + 255 * k) = ex m := by
  induction k with
  | zero => rfl
  | succ k ih => rw [show m + 255 * (k + 1) = (m + 255 * k) + 255 by omega, ex_period, ih]
theorem ex_mod (n : Nat) : ex (n % 255) = ex n := by
  have := ex_mul (n / 255) (n % 255)
  rw [← this]; congr 1; omega

theorem lgU_of (n a : Nat) (h : ∃ i, i < n ∧ ex i = a) : ex (lgU n a) = a ∧ lgU n a < n := by
  induction n with
  | zero => obtain ⟨i, hi, _⟩ := h; omega
  | succ n ih =>
    unfold lgU
    by_cases e : a = ex n
    · rw [if_pos e]; exact ⟨e.symm, by omega⟩
    · rw [if_neg e]
      obtain ⟨i, hi, he⟩ := h
      have : i < n := by
        by_cases q : i = n
        · subst q; exact absurd he.symm e
        · omega
      have := ih ⟨i, this, he⟩
      exact ⟨this.1, by omega⟩
theorem lgU_lt (n a : Nat) : lgU n a ≤ n := by
  induction n with
  | zero => exact Nat.le_refl _
  | succ n ih => unfold lgU; split <;> omega
theorem ex_lg {a : Nat} (h : a < 256) (h0 : 0 < a) : ex (lg a) = a := (lgU_of 255 a (ex_on h h0)).1
theorem lg_lt {a : Nat} (h : a < 256) (h0 : 0 < a) : lg a < 255 := (lgU_of 255 a (ex_on h h0)).2
theorem lg_le (a : Nat) : lg a ≤ 255 := lgU_lt 255 a
theorem lg_ex (n : Nat) : lg (ex n) = n % 255 :=
  ex_inj (lg_lt (ex_lt n) (ex_pos n)) (by omega) (by rw [ex_lg (ex_lt n) (ex_pos n), ex_mod])

/-! ### products -/
theorem mul_lt (a b : Nat) : mul a b < 256 := by unfold mul; split; omega; exact ex_lt _
theorem mul_zero (a : Nat) : mul a 0 = 0 := by simp [mul]
theorem zero_mul (a : Nat) : mul 0 a = 0 := by simp [mul]
theorem mul_of {a b : Nat} (ha : 0 < a) (hb : 0 < b) : mul a b = ex (lg a + lg b) := by
  unfold mul; rw [if_neg (by omega), ex_mod]
theorem mul_pos {a b : Nat} (ha : 0 < a) (hb : 0 < b) : 0 < mul a b := by rw [mul_of ha hb]; exact ex_pos _
theorem mul_ex (m n : Nat) : mul (ex m) (ex n) = ex (m + n) := by
  rw [mul_of (ex_pos _) (ex_pos _), lg_ex, lg_ex, ← ex_mod, ← ex_mod (m + n)]; congr 1; omega
theorem mul_comm (a b : Nat) : mul a b = mul b a := by
  unfold mul
  by_cases h : a = 0 ∨ b = 0
  · rw [if_pos h, if_pos h.symm]
  · rw [if_neg h, if_neg (fun q => h q.symm), Nat.add_comm]
theorem mul_assoc {a b c : Nat} (ha : a < 256) (hb : b < 256) (hc : c < 256) : mul (mul a b) c = mul a (mul b c) := by
  by_cases a0 : a = 0
  · subst a0; simp [zero_mul]
  by_cases b0 : b = 0
  · subst b0; simp [zero_mul, mul_zero]
  by_cases c0 : c = 0
  · subst c0; simp [mul_zero]
  rw [← ex_lg ha (by omega), ← ex_lg hb (by omega), ← ex_lg hc (by omega)]
  simp only [mul_ex]
  congr 1; omega
theorem mul_one {a : Nat} (ha : a < 256) : mul a 1 = a := by
  by_cases a0 : a = 0
  · subst a0; exact zero_mul 1
  have := mul_ex (lg a) 0
  rw [Nat.add_zero, ex_lg ha (by omega)] at this
  exact this

def itd : Nat → Nat → Nat
  | 0, b => b
  | n + 1, b => dbl (itd n b)
theorem itd_ex (n m : Nat) : itd n (ex m) = ex (m + n) := by
  induction n with
  | zero => rfl
  | succ n ih => simp only [itd, ih]; rfl
theorem itd_zero (n : Nat) : itd n 0 = 0 := by
  induction n with
  | zero => rfl
  | succ n ih => simp only [itd, ih]; decide
theorem itd_lt (n : Nat) {b : Nat} (h : b < 256) : itd n b < 256 := by
  induction n with
  | zero => exact h
  | succ n ih => exact dbl_lt ih
theorem mul_itd {a b : Nat} (hb : b < 256) (a0 : 0 < a) : mul a b = itd (lg a) b := by
  by_cases b0 : b = 0
  · subst b0; rw [mul_zero, itd_zero]
  have e := ex_lg hb (by omega)
  rw [← e, itd_ex, mul_of a0 (ex_pos _), lg_ex, ← ex_mod, ← ex_mod (lg b + lg a)]
  congr 1; omega

theorem xor_lt {a b : Nat} (ha : a < 256) (hb : b < 256) : a ^^^ b < 256 := Nat.xor_lt_two_pow (n := 8) ha hb
theorem dbl_xor' : (List.range 256).all (fun a => (List.range 256).all fun b => dbl (a ^^^ b) == dbl a ^^^ dbl b) = true := by decide +kernel
theorem dbl_xor {a b : Nat} (ha : a < 256) (hb : b < 256) : dbl (a ^^^ b) = dbl a ^^^ dbl b := by
  have := List.all_eq_true.1 (List.all_eq_true.1 dbl_xor' a (List.mem_range.2 ha)) b (List.mem_range.2 hb)
  simpa using this
theorem itd_xor (n : Nat) {a b : Nat} (ha : a < 256) (hb : b < 256) : itd n (a ^^^ b) = itd n a ^^^ itd n b := by
  induction n with
  | zero => rfl
  | succ n ih => simp only [itd, ih]; exact dbl_xor (itd_lt n ha) (itd_lt n hb)
theorem mul_xor {a b c : Nat} (ha : a < 256) (hb : b < 256) (hc : c < 256) : mul a (b ^^^ c) = mul a b ^^^ mul a c := by
  by_cases a0 : a = 0
  · subst a0; simp [zero_mul]
  rw [mul_itd (xor_lt hb hc) (by omega), mul_itd hb (by omega), mul_itd hc (by omega), itd_xor _ hb hc]

/-! ### quotients: the number whose product it is -/
def quo (a b : Nat) : Nat := if a = 0 then 0 else ex (lg a + 255 - lg b)
theorem quo_lt (a b : Nat) : quo a b < 256 := by unfold quo; split; omega; exact ex_lt _
theorem mul_quo {a b : Nat} (ha : a < 256) (hb : b < 256) (b0 : 0 < b) : mul (quo a b) b = a := by
  unfold quo
  by_cases a0 : a = 0
  · subst a0; simp [zero_mul]
  rw [if_neg a0]
  have := lg_le b
  have l1 := lg_lt hb b0
  have e := mul_ex (lg a + 255 - lg b) (lg b)
  rw [ex_lg hb b0] at e
  rw [e, show lg a + 255 - lg b + lg b = lg a + 255 by omega, ex_period, ex_lg ha (by omega)]
theorem quo_mul {a b : Nat} (ha : a < 256) (hb : b < 256) (b0 : 0 < b) : quo (mul a b) b = a := by
  unfold quo
  by_cases a0 : a = 0
  · subst a0; simp [zero_mul]
  have p := mul_pos (show 0 < a by omega) b0
  rw [if_neg (by omega), mul_of (by omega) b0, lg_ex]
  have l1 := lg_lt hb b0
  have l2 := lg_lt ha (by omega)
  rw [← ex_mod]
  rw [show ((lg a + lg b) % 255 + 255 - lg b) % 255 = lg a by omega, ex_lg ha (by omega)]
theorem mul_only {a b c : Nat} (ha : a < 256) (hb : b < 256) (b0 : 0 < b) (h : mul a b = c) : a = quo c b := by
  rw [← h, quo_mul ha hb b0]
theorem mul_inv {a b : Nat} (ha : a < 256) (hb : b < 256) (b0 : 0 < b) : mul a (quo 1 b) = quo a b := by
  refine mul_only (mul_lt _ _) hb b0 ?_
  rw [mul_assoc ha (quo_lt _ _) hb, mul_quo (by omega) hb b0, mul_one ha]

#print axioms mul_xor
#print axioms mul_inv
end Go.Proofs.Ytlgdajmidcdiaaa.Gf
