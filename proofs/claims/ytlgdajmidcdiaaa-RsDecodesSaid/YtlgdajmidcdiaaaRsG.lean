/-
  The document's elimination, in plain numbers: rows with one number more, of which the rows have an inverse; what it leaves tells the only solution. No program is named here.
-/
import Derived.Test.YtlgdajmidcdiaaaRsM
namespace Go.Proofs.Ytlgdajmidcdiaaa
set_option linter.unusedVariables false

/-- Rows below I, but row c, less so much of row c that nothing is left in column c. -/
def lessQ (c I : Nat) (Z : Nat → Nat → Nat) (r k : Nat) : Nat := if r < I ∧ r ≠ c then xr (Z r k) (Gf.mul (Gf.quo (Z r c) (Z c c)) (Z c k)) else Z r k
def rowSum (n : Nat) (Z : Nat → Nat → Nat) (x : Nat → Nat) (r : Nat) : Nat := xsum n (fun j => Gf.mul (Z r j) (x j))
structure Elim (n c : Nat) (x : Nat → Nat) (Z : Nat → Nat → Nat) : Prop where
  b : AllB Z
  sol : ∀ r, r < n → rowSum n Z x r = Z r n
  sure : Sure n Z
  off : ∀ r k, r < n → k < c → r ≠ k → Z r k = 0
  diag : ∀ k, k < c → 0 < Z k k
theorem lessQ_b {c I : Nat} {Z : Nat → Nat → Nat} (h : AllB Z) : AllB (lessQ c I Z) := fun r k => by
  unfold lessQ; split
  · exact xr_lt8 (h _ _) (Gf.mul_lt _ _)
  · exact h _ _
theorem lessQ_c {c I : Nat} (Z : Nat → Nat → Nat) (k : Nat) : lessQ c I Z c k = Z c k := by unfold lessQ; rw [if_neg (fun q => q.2 rfl)]
theorem rowSum_less {n c I r : Nat} {x : Nat → Nat} {Z : Nat → Nat → Nat} (hb : AllB Z) (hx : ∀ j, x j < 256) (h : r < I ∧ r ≠ c) : rowSum n (lessQ c I Z) x r = xr (rowSum n Z x r) (Gf.mul (Gf.quo (Z r c) (Z c c)) (rowSum n Z x c)) := by
  unfold rowSum
  rw [mul_xsum (Gf.quo_lt _ _) (fun j _ => Gf.mul_lt _ _), ← xsum_add]
  refine xsum_congr fun j _ => ?_
  unfold lessQ
  rw [if_pos h, xr_mul (hx j) (hb _ _) (Gf.mul_lt _ _), Gf.mul_assoc (Gf.quo_lt _ _) (hb _ _) (hx j)]
theorem rowSum_same {n c I r : Nat} {x : Nat → Nat} {Z : Nat → Nat → Nat} (h : ¬ (r < I ∧ r ≠ c)) : rowSum n (lessQ c I Z) x r = rowSum n Z x r := by
  unfold rowSum
  exact xsum_congr fun j _ => by unfold lessQ; rw [if_neg h]
theorem Elim.swap {n c p : Nat} {x : Nat → Nat} {Z : Nat → Nat → Nat} (h : Elim n c x Z) (hc : c < n) (hcp : c ≤ p) (hp : p < n) : Elim n c x (swapZ c p Z) := by
  refine ⟨fun r k => h.b _ _, fun r hr => h.sol _ (sw_lt hc hp hr), fun y hy hz => h.sure y hy fun r hr => ?_, fun r k hr hk hne => ?_, fun k hk => ?_⟩
  · have := hz (sw c p r) (sw_lt hc hp hr)
    unfold swapZ at this
    rw [sw_sw] at this
    exact this
  · refine h.off _ k (sw_lt hc hp hr) hk fun e => ?_
    unfold sw at e
    by_cases q1 : r = c
    · rw [if_pos q1] at e; omega
    · rw [if_neg q1] at e
      by_cases q2 : r = p
      · rw [if_pos q2] at e; omega
      · rw [if_neg q2] at e; exact hne e
  · unfold swapZ sw
    rw [if_neg (by omega), if_neg (by omega)]
    exact h.diag k hk
theorem Elim.less {n c : Nat} {x : Nat → Nat} {Z : Nat → Nat → Nat} (hx : ∀ j, x j < 256) (h : Elim n c x Z) (hc : c < n) (h0 : 0 < Z c c) : Elim n (c + 1) x (lessQ c n Z) := by
  refine ⟨lessQ_b h.b, fun r hr => ?_, fun y hy hz => h.sure y hy fun r hr => ?_, fun r k hr hk hne => ?_, fun k hk => ?_⟩
  · by_cases q : r < n ∧ r ≠ c
    · rw [rowSum_less h.b hx q, h.sol r hr, h.sol c hc]
      unfold lessQ; rw [if_pos q]
    · rw [rowSum_same q, h.sol r hr]
      unfold lessQ; rw [if_neg q]
  · have hzc : rowSum n Z y c = 0 := by
      have := hz c hc
      rw [show xsum n (fun j => Gf.mul (lessQ c n Z c j) (y j)) = rowSum n Z y c from xsum_congr fun j _ => by rw [lessQ_c]] at this
      exact this
    have hzr : rowSum n (lessQ c n Z) y r = 0 := hz r hr
    by_cases q : r < n ∧ r ≠ c
    · rw [rowSum_less h.b hy q, hzc, Gf.mul_zero, xr_z] at hzr
      exact hzr
    · rw [rowSum_same q] at hzr; exact hzr
  · unfold lessQ
    by_cases e : k = c
    · subst e
      rw [if_pos ⟨hr, hne⟩, Gf.mul_quo (h.b _ _) (h.b _ _) h0, xr_self]
    · have hkc : Z c k = 0 := h.off c k hc (by omega) (by omega)
      rw [hkc, Gf.mul_zero, xr_z, ite_self]
      exact h.off r k hr (by omega) hne
  · unfold lessQ
    by_cases e : k = c
    · subst e; rw [if_neg (fun q => q.2 rfl)]; exact h0
    · have hkc : Z c k = 0 := h.off c k hc (by omega) (by omega)
      rw [hkc, Gf.mul_zero, xr_z, ite_self]
      exact h.diag k (by omega)
/-- There is a pivot. -/
theorem Elim.pivot {n c : Nat} {x : Nat → Nat} {Z : Nat → Nat → Nat} (h : Elim n c x Z) (hc : c < n) (h0 : ∀ r, c ≤ r → r < n → Z r c = 0) : False := by
  obtain ⟨y, hy⟩ : ∃ y : Nat → Nat, y = fun j => if j < c then Gf.quo (Z j c) (Z j j) else if j = c then 1 else 0 := ⟨_, rfl⟩
  have hb : ∀ j, y j < 256 := fun j => by
    rw [hy]; show (if j < c then Gf.quo (Z j c) (Z j j) else if j = c then 1 else 0) < 256
    split
    · exact Gf.quo_lt _ _
    · split <;> omega
  have y1 : y c = 1 := by rw [hy]; show (if c < c then Gf.quo (Z c c) (Z c c) else if c = c then 1 else 0) = 1; rw [if_neg (Nat.lt_irrefl _), if_pos rfl]
  have yl : ∀ j, j < c → y j = Gf.quo (Z j c) (Z j j) := fun j hj => by rw [hy]; exact if_pos hj
  have yg : ∀ j, c < j → y j = 0 := fun j hj => by rw [hy]; show (if j < c then Gf.quo (Z j c) (Z j j) else if j = c then 1 else 0) = 0; rw [if_neg (by omega), if_neg (by omega)]
  have := h.sure y hb (fun r hr => ?_) c hc
  · omega
  · by_cases hrc : r < c
    · have e : xsum n (fun j => Gf.mul (Z r j) (y j)) = xsum n (fun j => xr (if j = r then Z r c else 0) (if j = c then Z r c else 0)) := xsum_congr fun j hj => by
        by_cases q1 : j = r
        · subst q1
          rw [if_pos rfl, if_neg (by omega), xr_z, yl j hrc, Gf.mul_comm, Gf.mul_quo (h.b _ _) (h.b _ _) (h.diag j hrc)]
        · rw [if_neg q1, z_xr]
          by_cases q2 : j = c
          · subst q2; rw [if_pos rfl, y1, Gf.mul_one (h.b _ _)]
          · rw [if_neg q2]
            by_cases q3 : j < c
            · rw [h.off r j hr q3 (fun e => q1 e.symm), Gf.zero_mul]
            · rw [yg j (by omega), Gf.mul_zero]
      rw [e, xsum_add, xsum_single (i := r) _ hr (fun j _ hj => if_neg hj), xsum_single (i := c) _ hc (fun j _ hj => if_neg hj), if_pos rfl, if_pos rfl, xr_self]
    · refine xsum_none fun j hj => ?_
      by_cases q : j < c
      · rw [h.off r j hr q (by omega), Gf.zero_mul]
      · by_cases q2 : j = c
        · subst q2; rw [h0 r (by omega) hr, Gf.zero_mul]
        · rw [yg j (by omega), Gf.mul_zero]
theorem Elim.done {n : Nat} {x : Nat → Nat} {Z : Nat → Nat → Nat} (hx : ∀ j, x j < 256) (h : Elim n n x Z) {i : Nat} (hi : i < n) : Gf.quo (Z i n) (Z i i) = x i := by
  have := h.sol i hi
  unfold rowSum at this
  rw [xsum_single (i := i) _ hi (fun j hj hne => by rw [h.off i j hi hj (fun e => hne e.symm), Gf.zero_mul])] at this
  exact (Gf.mul_only (hx i) (h.b _ _) (h.diag i hi) (by rw [Gf.mul_comm]; exact this)).symm
/-- Rows, and a number more for each. -/
def augZ (n : Nat) (R : Nat → Nat → Nat) (y : Nat → Nat) (r c : Nat) : Nat := if c < n then R r c else y r
theorem Elim.start {n : Nat} {x y : Nat → Nat} {R : Nat → Nat → Nat} (hR : AllB R) (hy : ∀ r, y r < 256) (hs : Sure n R) (h : ∀ r, r < n → rowSum n R x r = y r) : Elim n 0 x (augZ n R y) := by
  refine ⟨fun r c => by unfold augZ; split; exact hR _ _; exact hy _, fun r hr => ?_, fun z hz h0 => hs z hz fun r hr => ?_, fun r k _ hk => absurd hk (Nat.not_lt_zero k), fun k hk => absurd hk (Nat.not_lt_zero k)⟩
  · have e : rowSum n (augZ n R y) x r = rowSum n R x r := xsum_congr fun j hj => by unfold augZ; rw [if_pos hj]
    rw [e, h r hr]
    unfold augZ; rw [if_neg (Nat.lt_irrefl _)]
  · rw [← h0 r hr]
    exact xsum_congr fun j hj => by unfold augZ; rw [if_pos hj]
#print axioms Elim.done
#print axioms Elim.pivot
end Go.Proofs.Ytlgdajmidcdiaaa
