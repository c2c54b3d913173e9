/-
  Matrices over the field, in plain numbers: sums, products, One, Cauchy's, the steps of an elimination. No program is named here.
-/
import Derived.Test.YtlgdajmidcdiaaaPoly
namespace Go.Proofs.Ytlgdajmidcdiaaa
set_option linter.unusedVariables false

def oneZ (r c : Nat) : Nat := if r = c then 1 else 0
def zeroZ (r c : Nat) : Nat := 0
def cauZ (cols r c : Nat) : Nat := Gf.quo 1 (xr (cols + r) c)
theorem cauZ_lt (cols r c : Nat) : cauZ cols r c < 256 := Gf.quo_lt _ _
theorem cau_sum {cols r c : Nat} (h : c < cols) : ¬ xr (cols + r) c = 0 := fun e => by
  have e' : (cols + r) ^^^ c = 0 := e
  have e2 : cols + r = c := by
    have := congrArg (· ^^^ c) e'
    simp only [Nat.xor_assoc, Nat.xor_self, Nat.xor_zero, Nat.zero_xor] at this
    exact this
  omega
def xsum : Nat → (Nat → Nat) → Nat
  | 0, _ => 0
  | n + 1, f => xr (xsum n f) (f n)
theorem xsum_lt {n : Nat} {f : Nat → Nat} (h : ∀ j, j < n → f j < 256) : xsum n f < 256 := by
  induction n with
  | zero => show 0 < 256; omega
  | succ n ih => exact Gf.xor_lt (ih fun j hj => h j (by omega)) (h n (by omega))
theorem xsum_congr {n : Nat} {f g : Nat → Nat} (h : ∀ j, j < n → f j = g j) : xsum n f = xsum n g := by
  induction n with
  | zero => rfl
  | succ n ih => show xr _ _ = xr _ _; rw [ih fun j hj => h j (by omega), h n (by omega)]
def mulZ (k : Nat) (a b : Nat → Nat → Nat) (r c : Nat) : Nat := xsum k (fun j => Gf.mul (a r j) (b j c))
theorem mulZ_lt (k : Nat) (a b : Nat → Nat → Nat) (r c : Nat) : mulZ k a b r c < 256 := xsum_lt fun _ _ => Gf.mul_lt _ _
def besZ (n : Nat) (X : Nat → Nat → Nat) (r c : Nat) : Nat := if c < n then X r c else if c = n + r then 1 else 0
def colZ (lo : Nat) (Z : Nat → Nat → Nat) (r c : Nat) : Nat := Z r (lo + c)
/-- Each row but row c, less its number in column c times row c. -/
def lessZ (c : Nat) (Z : Nat → Nat → Nat) (r k : Nat) : Nat := if r = c then Z r k else xr (Z r k) (Gf.mul (Z c k) (Z r c))
def sw (c p r : Nat) : Nat := if r = c then p else if r = p then c else r
theorem sw_lt {c p r n : Nat} (hc : c < n) (hp : p < n) (hr : r < n) : sw c p r < n := by unfold sw; split; exact hp; split; exact hc; exact hr
theorem sw_sw (c p r : Nat) : sw c p (sw c p r) = r := by
  unfold sw
  by_cases h1 : r = c
  · subst h1
    by_cases h2 : p = r
    · simp [h2]
    · simp [h2]
  · by_cases h2 : r = p
    · subst h2; simp [h1]
    · simp [h1, h2]
theorem sw_inj {c p r q : Nat} (h : sw c p r = sw c p q) : r = q := by rw [← sw_sw c p r, h, sw_sw]
/-- Row c times s. -/
def scaleZ (c s : Nat) (Z : Nat → Nat → Nat) (r k : Nat) : Nat := if r = c then Gf.mul (Z r k) s else Z r k
def swapZ (c p : Nat) (Z : Nat → Nat → Nat) (r k : Nat) : Nat := Z (sw c p r) k
/-- A step: rows c and p swapped, row c made 1 at c, the others made 0 there. -/
def stepZ (c p : Nat) (Z : Nat → Nat → Nat) : Nat → Nat → Nat := lessZ c (scaleZ c (Gf.quo 1 (Z p c)) (swapZ c p Z))
end Go.Proofs.Ytlgdajmidcdiaaa
