/-
  Of One's rows and Cauchy's behind them any as many as there are columns, each once, make nothing of nothing but nothing. No program is named here.
-/
import Derived.Test.YtlgdajmidcdiaaaDet
namespace Go.Proofs.Ytlgdajmidcdiaaa
set_option linter.unusedVariables false

def lsum (l : List Nat) (f : Nat → Nat) : Nat := l.foldr (fun b s => xr (f b) s) 0
theorem lsum_cons (b : Nat) (l : List Nat) (f : Nat → Nat) : lsum (b :: l) f = xr (f b) (lsum l f) := rfl
theorem lsum_lt {l : List Nat} {f : Nat → Nat} (h : ∀ b ∈ l, f b < 256) : lsum l f < 256 := by
  induction l with
  | nil => show 0 < 256; omega
  | cons b l ih => exact xr_lt8 (h b (by simp)) (ih fun c hc => h c (by simp [hc]))
theorem lsum_congr {l : List Nat} {f g : Nat → Nat} (h : ∀ b ∈ l, f b = g b) : lsum l f = lsum l g := by
  induction l with
  | nil => rfl
  | cons b l ih => rw [lsum_cons, lsum_cons, h b (by simp), ih fun c hc => h c (by simp [hc])]
theorem lsum_none {l : List Nat} {f : Nat → Nat} (h : ∀ b ∈ l, f b = 0) : lsum l f = 0 := by
  induction l with
  | nil => rfl
  | cons b l ih => rw [lsum_cons, h b (by simp), ih fun c hc => h c (by simp [hc])]; rfl
theorem lsum_add (l : List Nat) (f g : Nat → Nat) : lsum l (fun b => xr (f b) (g b)) = xr (lsum l f) (lsum l g) := by
  induction l with
  | nil => exact (xr_z 0).symm
  | cons b l ih => rw [lsum_cons, lsum_cons, lsum_cons, ih, xr_four]
theorem lsum_mul {a : Nat} {l : List Nat} {f : Nat → Nat} (ha : a < 256) (h : ∀ b ∈ l, f b < 256) : lsum l (fun b => Gf.mul a (f b)) = Gf.mul a (lsum l f) := by
  induction l with
  | nil => exact (Gf.mul_zero a).symm
  | cons b l ih => rw [lsum_cons, lsum_cons, ih fun c hc => h c (by simp [hc]), mul_xr ha (h b (by simp)) (lsum_lt fun c hc => h c (by simp [hc]))]
theorem mul_eq0 {a b : Nat} (ha : a < 256) (hb : b < 256) (h : Gf.mul a b = 0) (h0 : 0 < b) : a = 0 := by
  by_cases q : a = 0
  · exact q
  · have := Gf.mul_pos (show 0 < a by omega) h0; omega
theorem xr_pos {a b : Nat} (h : a ≠ b) : 0 < xr a b := by
  by_cases q : xr a b = 0
  · exact absurd (xr_eq q) h
  · omega
def iv (u : Nat) : Nat := Gf.quo 1 u
theorem iv_lt (u : Nat) : iv u < 256 := Gf.quo_lt _ _
theorem mul_iv {u : Nat} (hu : u < 256) (h0 : 0 < u) : Gf.mul u (iv u) = 1 := by unfold iv; rw [Gf.mul_comm, Gf.mul_quo (by omega) hu h0]
theorem iv_pos {u : Nat} (hu : u < 256) (h0 : 0 < u) : 0 < iv u := quo_pos hu h0
/-- (u + t) x / u = x + x t / u. -/
theorem one_part {u t x : Nat} (hu : u < 256) (u0 : 0 < u) (ht : t < 256) (hx : x < 256) : Gf.mul (xr u t) (Gf.mul x (iv u)) = xr x (Gf.mul x (Gf.mul t (iv u))) := by
  rw [xr_mul (Gf.mul_lt _ _) hu ht, mul_lc hu hx (iv_lt u), mul_iv hu u0, Gf.mul_one hx, mul_lc ht hx (iv_lt u)]
theorem two_parts {u v t x : Nat} (hu : u < 256) (u0 : 0 < u) (hv : v < 256) (v0 : 0 < v) (ht : t < 256) (hx : x < 256) :
    xr (Gf.mul (xr u t) (Gf.mul x (iv u))) (Gf.mul (xr v t) (Gf.mul x (iv v))) = Gf.mul (xr u v) (Gf.mul (Gf.mul x (Gf.mul t (iv v))) (iv u)) := by
  have hy : Gf.mul x (Gf.mul t (iv v)) < 256 := Gf.mul_lt _ _
  rw [one_part hu u0 ht hx, one_part hv v0 ht hx, xr_four, xr_self, z_xr]
  rw [xr_mul (Gf.mul_lt _ _) hu hv, mul_lc hu hy (iv_lt u), mul_iv hu u0, Gf.mul_one hy]
  have e : Gf.mul v (Gf.mul (Gf.mul x (Gf.mul t (iv v))) (iv u)) = Gf.mul x (Gf.mul t (iv u)) := by
    rw [Gf.mul_comm (Gf.mul x (Gf.mul t (iv v))), mul_lc hv (iv_lt u) hy, mul_lc hv hx (Gf.mul_lt _ _), mul_lc hv ht (iv_lt v), mul_iv hv v0, Gf.mul_one ht, mul_lc (iv_lt u) hx ht, Gf.mul_comm (iv u)]
  rw [e, xr_comm]
theorem cau_kernel : ∀ (bs as : List Nat) (x : Nat → Nat), bs.length ≤ as.length → as.Nodup → bs.Nodup → (∀ a ∈ as, a < 256) → (∀ b ∈ bs, b < 256) → (∀ a ∈ as, ∀ b ∈ bs, a ≠ b) → (∀ b, x b < 256) →
    (∀ a ∈ as, lsum bs (fun k => Gf.mul (x k) (iv (xr a k))) = 0) → ∀ b ∈ bs, x b = 0
  | [], _, _, _, _, _, _, _, _, _, _ => fun b hb => by cases hb
  | b :: bs, [], _, hl, _, _, _, _, _, _, _ => by simp at hl
  | b :: bs, a :: as, x, hl, na, nb, ha, hb, hne, hx, h => by
    have ha0 := ha a (by simp)
    have hb0 := hb b (by simp)
    have nb' := List.nodup_cons.1 nb
    have na' := List.nodup_cons.1 na
    have hab := hne a (by simp) b (by simp)
    have sa := h a (by simp)
    have key : ∀ k ∈ bs, Gf.mul (x k) (Gf.mul (xr b k) (iv (xr a k))) = 0 := by
      refine cau_kernel bs as (fun k => Gf.mul (x k) (Gf.mul (xr b k) (iv (xr a k)))) (by simpa using hl) na'.2 nb'.2 (fun c hc => ha c (by simp [hc])) (fun c hc => hb c (by simp [hc])) (fun c hc d hd => hne c (by simp [hc]) d (by simp [hd])) (fun k => Gf.mul_lt _ _) fun a' ha' => ?_
      have ha1 := ha a' (by simp [ha'])
      have sa' := h a' (by simp [ha'])
      have hne' : a' ≠ a := fun e => na'.1 (by rw [← e]; exact ha')
      -- (a' + b) times the sum at a', and (a + b) times that at a
      have e1 : lsum (b :: bs) (fun k => xr (Gf.mul (xr a' b) (Gf.mul (x k) (iv (xr a' k)))) (Gf.mul (xr a b) (Gf.mul (x k) (iv (xr a k))))) = 0 := by
        rw [lsum_add, lsum_mul (xr_lt8 ha1 hb0) fun _ _ => Gf.mul_lt _ _, lsum_mul (xr_lt8 ha0 hb0) fun _ _ => Gf.mul_lt _ _, sa, sa', Gf.mul_zero, Gf.mul_zero]; rfl
      rw [lsum_cons] at e1
      have e2 : xr (Gf.mul (xr a' b) (Gf.mul (x b) (iv (xr a' b)))) (Gf.mul (xr a b) (Gf.mul (x b) (iv (xr a b)))) = 0 := by
        have p1 := xr_pos (hne a' (by simp [ha']) b (by simp))
        have p2 := xr_pos hab
        rw [mul_lc (xr_lt8 ha1 hb0) (hx b) (iv_lt _), mul_iv (xr_lt8 ha1 hb0) p1, mul_lc (xr_lt8 ha0 hb0) (hx b) (iv_lt _), mul_iv (xr_lt8 ha0 hb0) p2, xr_self]
      rw [e2, z_xr] at e1
      have e3 : lsum bs (fun k => Gf.mul (xr a' a) (Gf.mul (Gf.mul (x k) (Gf.mul (xr b k) (iv (xr a k)))) (iv (xr a' k)))) = 0 := by
        rw [← e1]
        refine lsum_congr fun k hk => ?_
        have hk0 := hb k (by simp [hk])
        have q1 := xr_pos (hne a' (by simp [ha']) k (by simp [hk]))
        have q2 := xr_pos (hne a (by simp) k (by simp [hk]))
        have t1 : xr (xr a' k) (xr b k) = xr a' b := by rw [xr_comm b k, xr_assoc, ← xr_assoc k, xr_self, z_xr]
        have t2 : xr (xr a k) (xr b k) = xr a b := by rw [xr_comm b k, xr_assoc, ← xr_assoc k, xr_self, z_xr]
        have t3 : xr (xr a' k) (xr a k) = xr a' a := by rw [xr_comm a k, xr_assoc, ← xr_assoc k, xr_self, z_xr]
        have := two_parts (xr_lt8 ha1 hk0) q1 (xr_lt8 ha0 hk0) q2 (xr_lt8 hb0 hk0) (hx k)
        rw [t1, t2, t3] at this
        exact this.symm
      rw [lsum_mul (xr_lt8 ha1 ha0) fun _ _ => Gf.mul_lt _ _, Gf.mul_comm] at e3
      exact mul_eq0 (lsum_lt fun _ _ => Gf.mul_lt _ _) (xr_lt8 ha1 ha0) e3 (xr_pos hne')
    have hrest : ∀ k ∈ bs, x k = 0 := fun k hk => by
      have hk0 := hb k (by simp [hk])
      have q1 := xr_pos (fun e : b = k => nb'.1 (by rw [e]; exact hk))
      have q2 := xr_pos (hne a (by simp) k (by simp [hk]))
      exact mul_eq0 (hx k) (Gf.mul_lt _ _) (key k hk) (Gf.mul_pos q1 (iv_pos (xr_lt8 ha0 hk0) q2))
    intro c hc
    rcases List.mem_cons.1 hc with rfl | hc
    · rw [lsum_cons, lsum_none fun k hk => by rw [hrest k hk, Gf.zero_mul], xr_z] at sa
      exact mul_eq0 (hx c) (iv_lt _) sa (iv_pos (xr_lt8 ha0 hb0) (xr_pos hab))
    · exact hrest c hc
#print axioms cau_kernel
end Go.Proofs.Ytlgdajmidcdiaaa
