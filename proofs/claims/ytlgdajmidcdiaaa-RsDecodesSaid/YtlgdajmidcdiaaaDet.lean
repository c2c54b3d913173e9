/-
  What tells whether a square matrix has an inverse, by its first column: what the elimination's steps do to it. No program is named here.
-/
import Derived.Test.YtlgdajmidcdiaaaLin
namespace Go.Proofs.Ytlgdajmidcdiaaa
set_option linter.unusedVariables false

def skip (i r : Nat) : Nat := if r < i then r else r + 1
def minZ (i : Nat) (M : Nat → Nat → Nat) (r c : Nat) : Nat := M (skip i r) (c + 1)
def detZ : Nat → (Nat → Nat → Nat) → Nat
  | 0, _ => 1
  | n + 1, M => xsum (n + 1) (fun i => Gf.mul (M i 0) (detZ n (minZ i M)))
theorem det_lt (n : Nat) (M : Nat → Nat → Nat) : detZ n M < 256 := by
  cases n with
  | zero => show 1 < 256; omega
  | succ n => exact xsum_lt fun _ _ => Gf.mul_lt _ _
theorem skip_lt {i r n : Nat} (h : r < n) : skip i r < n + 1 := by unfold skip; split <;> omega
theorem det_congr {n : Nat} : ∀ {M N : Nat → Nat → Nat}, Eq2 n n M N → detZ n M = detZ n N := by
  induction n with
  | zero => intro M N _; rfl
  | succ n ih =>
    intro M N h
    refine xsum_congr fun i hi => ?_
    rw [h i 0 hi (by omega), ih (M := minZ i M) (N := minZ i N) fun r c hr hc => h _ _ (skip_lt hr) (by omega)]
def setR (M : Nat → Nat → Nat) (r : Nat) (x : Nat → Nat) (q c : Nat) : Nat := if q = r then x c else M q c
theorem setR_same (M : Nat → Nat → Nat) (r : Nat) (x : Nat → Nat) (c : Nat) : setR M r x r c = x c := if_pos rfl
theorem setR_other {M : Nat → Nat → Nat} {r q : Nat} {x : Nat → Nat} (h : q ≠ r) (c : Nat) : setR M r x q c = M q c := if_neg h
theorem setR_b {M : Nat → Nat → Nat} {r : Nat} {x : Nat → Nat} (hM : AllB M) (hx : ∀ c, x c < 256) : AllB (setR M r x) := fun q c => by unfold setR; split; exact hx c; exact hM q c
theorem setR_self (M : Nat → Nat → Nat) (r : Nat) : setR M r (M r) = M := by
  funext q c; unfold setR
  by_cases e : q = r
  · rw [if_pos e, e]
  · rw [if_neg e]
theorem skip_ne (i r : Nat) : skip i r ≠ i := by unfold skip; split <;> omega
theorem min_set_same (M : Nat → Nat → Nat) (r : Nat) (x : Nat → Nat) : minZ r (setR M r x) = minZ r M := by
  funext q c; exact setR_other (skip_ne r q) _
def uns (i r : Nat) : Nat := if r < i then r else r - 1
theorem uns_iff {i r : Nat} (h : r ≠ i) (q : Nat) : skip i q = r ↔ q = uns i r := by unfold skip uns; split <;> split <;> omega
theorem min_set_other {M : Nat → Nat → Nat} {i r : Nat} {x : Nat → Nat} (h : r ≠ i) : minZ i (setR M r x) = setR (minZ i M) (uns i r) (fun c => x (c + 1)) := by
  funext q c
  unfold minZ setR
  by_cases e : q = uns i r
  · rw [if_pos e, if_pos ((uns_iff h q).2 e)]
  · rw [if_neg e, if_neg (fun k => e ((uns_iff h q).1 k))]
theorem min_b {M : Nat → Nat → Nat} {i : Nat} (h : AllB M) : AllB (minZ i M) := fun r c => h _ _
theorem mul_lc {a b c : Nat} (ha : a < 256) (hb : b < 256) (hc : c < 256) : Gf.mul a (Gf.mul b c) = Gf.mul b (Gf.mul a c) := by rw [← Gf.mul_assoc ha hb hc, Gf.mul_comm a b, Gf.mul_assoc hb ha hc]
theorem mul_rc {a b c : Nat} (ha : a < 256) (hb : b < 256) (hc : c < 256) : Gf.mul (Gf.mul a b) c = Gf.mul (Gf.mul a c) b := by rw [Gf.mul_assoc ha hb hc, Gf.mul_comm b c, Gf.mul_assoc ha hc hb]
theorem det_lin {s : Nat} (hs : s < 256) : ∀ (n : Nat) (M : Nat → Nat → Nat) (r : Nat) (x y : Nat → Nat), AllB M → (∀ c, x c < 256) → (∀ c, y c < 256) → r < n →
    detZ n (setR M r (fun c => xr (x c) (Gf.mul (y c) s))) = xr (detZ n (setR M r x)) (Gf.mul (detZ n (setR M r y)) s)
  | 0, M, r, x, y, hM, hx, hy, hr => absurd hr (Nat.not_lt_zero r)
  | n + 1, M, r, x, y, hM, hx, hy, hr => by
    show xsum (n + 1) _ = xr (xsum (n + 1) _) (Gf.mul (xsum (n + 1) _) s)
    rw [xsum_mul hs fun _ _ => Gf.mul_lt _ _, ← xsum_add]
    refine xsum_congr fun i hi => ?_
    by_cases e : r = i
    · subst e
      rw [min_set_same, min_set_same, min_set_same, setR_same, setR_same, setR_same, xr_mul (det_lt _ _) (hx 0) (Gf.mul_lt _ _), mul_rc (hy 0) hs (det_lt _ _)]
    · rw [min_set_other e, min_set_other e, min_set_other e, setR_other (fun k => e k.symm), setR_other (fun k => e k.symm), setR_other (fun k => e k.symm)]
      rw [det_lin hs n (minZ i M) (uns i r) (fun c => x (c + 1)) (fun c => y (c + 1)) (min_b hM) (fun c => hx _) (fun c => hy _) (by unfold uns; split <;> omega)]
      rw [mul_xr (hM i 0) (det_lt _ _) (Gf.mul_lt _ _), ← Gf.mul_assoc (hM i 0) (det_lt _ _) hs]
theorem xsum_pair {n r s : Nat} (f : Nat → Nat) (hr : r < n) (hs : s < n) (hrs : r ≠ s) (h : ∀ j, j < n → j ≠ r → j ≠ s → f j = 0) : xsum n f = xr (f r) (f s) := by
  have e : ∀ j, j < n → f j = xr (if j = r then f r else 0) (if j = s then f s else 0) := fun j hj => by
    by_cases h1 : j = r
    · subst h1; rw [if_pos rfl, if_neg hrs, xr_z]
    · by_cases h2 : j = s
      · subst h2; rw [if_neg h1, if_pos rfl, z_xr]
      · rw [if_neg h1, if_neg h2, h j hj h1 h2]; rfl
  rw [xsum_congr e, xsum_add, xsum_single (i := r) (fun j => if j = r then f r else 0) hr (fun j _ hj => if_neg hj), xsum_single (i := s) (fun j => if j = s then f s else 0) hs (fun j _ hj => if_neg hj)]
  show xr (if r = r then f r else 0) (if s = s then f s else 0) = _
  rw [if_pos rfl, if_pos rfl]
theorem det_adj : ∀ (n : Nat) (M : Nat → Nat → Nat) (r : Nat), r + 1 < n → (∀ c, c < n → M r c = M (r + 1) c) → detZ n M = 0
  | 0, M, r, hr, h => by omega
  | n + 1, M, r, hr, h => by
    have hz : ∀ j, j < n + 1 → j ≠ r → j ≠ r + 1 → Gf.mul (M j 0) (detZ n (minZ j M)) = 0 := fun j hj h1 h2 => by
      have : detZ n (minZ j M) = 0 := by
        by_cases q : j < r
        · refine det_adj n (minZ j M) (r - 1) (by omega) fun c hc => ?_
          unfold minZ skip
          rw [if_neg (by omega), if_neg (by omega), show r - 1 + 1 = r by omega]
          exact h (c + 1) (by omega)
        · refine det_adj n (minZ j M) r (by omega) fun c hc => ?_
          unfold minZ skip
          rw [if_pos (by omega), if_pos (by omega)]
          exact h (c + 1) (by omega)
      rw [this, Gf.mul_zero]
    show xsum (n + 1) _ = 0
    rw [xsum_pair (fun i => Gf.mul (M i 0) (detZ n (minZ i M))) (show r < n + 1 by omega) hr (by omega) hz]
    show xr (Gf.mul (M r 0) (detZ n (minZ r M))) (Gf.mul (M (r + 1) 0) (detZ n (minZ (r + 1) M))) = 0
    rw [← h 0 (by omega), det_congr (M := minZ (r + 1) M) (N := minZ r M) fun q c hq hc => ?_, xr_self]
    unfold minZ skip
    by_cases e : q = r
    · subst e; rw [if_pos (by omega), if_neg (by omega)]; exact h (c + 1) (by omega)
    · by_cases e2 : q < r
      · rw [if_pos (by omega), if_pos e2]
      · rw [if_neg (by omega), if_neg e2]
/-- Row r, and s times row q. -/
def addR (r q s : Nat) (M : Nat → Nat → Nat) : Nat → Nat → Nat := setR M r (fun c => xr (M r c) (Gf.mul (M q c) s))
theorem addR_b {r q s : Nat} {M : Nat → Nat → Nat} (h : AllB M) : AllB (addR r q s M) := setR_b h fun c => xr_lt8 (h r c) (Gf.mul_lt _ _)
theorem det_addR {n r q s : Nat} {M : Nat → Nat → Nat} (hs : s < 256) (hM : AllB M) (hr : r < n) (h0 : detZ n (setR M r (M q)) = 0) : detZ n (addR r q s M) = detZ n M := by
  unfold addR
  rw [det_lin hs n M r (M r) (M q) hM (hM r) (hM q) hr, h0, Gf.zero_mul, xr_z, setR_self]
/-- Three sums are a swap. -/
theorem swap_adds {r q : Nat} (h : r ≠ q) {M : Nat → Nat → Nat} (hM : AllB M) : addR r q 1 (addR q r 1 (addR r q 1 M)) = swapZ r q M := by
  have hq : q ≠ r := fun e => h e.symm
  funext i c
  have e1 : ∀ c, addR r q 1 M r c = xr (M r c) (M q c) := fun c => by unfold addR; rw [setR_same, Gf.mul_one (hM q c)]
  have e2 : ∀ c, addR r q 1 M q c = M q c := fun c => by unfold addR; rw [setR_other hq]
  have b1 := addR_b (r := r) (q := q) (s := 1) hM
  have f1 : ∀ c, addR q r 1 (addR r q 1 M) q c = M r c := fun c => by
    unfold addR; rw [setR_same]
    show xr (addR r q 1 M q c) (Gf.mul (addR r q 1 M r c) 1) = _
    rw [Gf.mul_one (b1 r c), e1, e2, xr_comm, xr_assoc, xr_self, xr_z]
  have f2 : ∀ c, addR q r 1 (addR r q 1 M) r c = xr (M r c) (M q c) := fun c => by
    rw [show addR q r 1 (addR r q 1 M) r c = addR r q 1 M r c from setR_other h c, e1]
  have b2 := addR_b (r := q) (q := r) (s := 1) b1
  unfold swapZ sw
  by_cases i1 : i = r
  · subst i1
    rw [if_pos rfl]
    show setR _ i (fun c => xr (addR q i 1 (addR i q 1 M) i c) (Gf.mul (addR q i 1 (addR i q 1 M) q c) 1)) i c = _
    rw [setR_same, Gf.mul_one (b2 q c), f1, f2, xr_comm (M i c), xr_assoc, xr_self, xr_z]
  · rw [if_neg i1]
    rw [show addR r q 1 (addR q r 1 (addR r q 1 M)) i c = addR q r 1 (addR r q 1 M) i c from setR_other i1 c]
    by_cases i2 : i = q
    · subst i2; rw [if_pos rfl, f1]
    · rw [if_neg i2, show addR q r 1 (addR r q 1 M) i c = addR r q 1 M i c from setR_other i2 c]
      exact setR_other i1 c
/-- Two rows that stand side by side are swapped. -/
theorem det_swap1 {n r : Nat} {M : Nat → Nat → Nat} (hM : AllB M) (hr : r + 1 < n) : detZ n (swapZ r (r + 1) M) = detZ n M := by
  have up : ∀ {N : Nat → Nat → Nat}, AllB N → detZ n (addR r (r + 1) 1 N) = detZ n N := fun {N} hN => det_addR (by omega) hN (by omega) (det_adj n _ r hr fun c _ => by rw [setR_same, setR_other (by omega)])
  have dn : ∀ {N : Nat → Nat → Nat}, AllB N → detZ n (addR (r + 1) r 1 N) = detZ n N := fun {N} hN => det_addR (by omega) hN hr (det_adj n _ r hr fun c _ => by rw [setR_same, setR_other (by omega)])
  rw [← swap_adds (by omega) hM, up (addR_b (addR_b hM)), dn (addR_b hM), up hM]
/-- Two rows are the same. -/
theorem det_eq {n : Nat} : ∀ (d a : Nat) (M : Nat → Nat → Nat), AllB M → a + 1 + d < n → (∀ c, c < n → M a c = M (a + 1 + d) c) → detZ n M = 0
  | 0, a, M, hM, hb, h => det_adj n M a hb h
  | d + 1, a, M, hM, hb, h => by
    rw [← det_swap1 (r := a + 1 + d) hM (by omega)]
    refine det_eq d a _ (fun r c => hM _ _) (by omega) fun c hc => ?_
    unfold swapZ sw
    rw [if_neg (by omega), if_neg (by omega), if_pos rfl]
    exact h c hc
theorem det_same {n a b : Nat} {M : Nat → Nat → Nat} (hM : AllB M) (ha : a < n) (hb : b < n) (hab : a ≠ b) (h : ∀ c, c < n → M a c = M b c) : detZ n M = 0 := by
  by_cases q : a < b
  · obtain ⟨d, rfl⟩ : ∃ d, b = a + 1 + d := ⟨b - a - 1, by omega⟩
    exact det_eq d a M hM hb h
  · obtain ⟨d, rfl⟩ : ∃ d, a = b + 1 + d := ⟨a - b - 1, by omega⟩
    exact det_eq d b M hM ha fun c hc => (h c hc).symm
theorem det_add {n r q s : Nat} {M : Nat → Nat → Nat} (hs : s < 256) (hM : AllB M) (hr : r < n) (hq : q < n) (h : r ≠ q) : detZ n (addR r q s M) = detZ n M :=
  det_addR hs hM hr (det_same (setR_b hM (hM q)) hr hq h fun c _ => by rw [setR_same, setR_other (fun e => h e.symm)])
theorem det_swap {n a b : Nat} {M : Nat → Nat → Nat} (hM : AllB M) (ha : a < n) (hb : b < n) : detZ n (swapZ a b M) = detZ n M := by
  by_cases e : a = b
  · subst e
    refine det_congr fun r c _ _ => ?_
    unfold swapZ sw
    by_cases q : r = a
    · rw [if_pos q, q]
    · rw [if_neg q, if_neg q]
  · have o1 : (1 : Nat) < 256 := by omega
    rw [← swap_adds e hM, det_add o1 (addR_b (addR_b hM)) ha hb e, det_add o1 (addR_b hM) hb ha (fun k => e k.symm), det_add o1 hM ha hb e]
theorem det_scale {n c s : Nat} {M : Nat → Nat → Nat} (hs : s < 256) (hM : AllB M) (hc : c < n) : detZ n (scaleZ c s M) = Gf.mul (detZ n M) s := by
  have z : ∀ _ : Nat, (0 : Nat) < 256 := fun _ => by omega
  have h0 : detZ n (setR M c (fun _ => 0)) = 0 := by
    have := det_lin (s := 1) (by omega) n M c (fun _ => 0) (fun _ => 0) hM z z hc
    rw [show (fun c : Nat => xr 0 (Gf.mul 0 1)) = (fun _ => 0) from by funext c; rw [Gf.zero_mul]; rfl, Gf.mul_one (det_lt _ _), xr_self] at this
    exact this
  have h1 := det_lin hs n M c (fun _ => 0) (M c) hM z (hM c) hc
  rw [h0, z_xr, setR_self] at h1
  rw [← h1]
  refine det_congr fun r k _ _ => ?_
  unfold scaleZ setR
  by_cases e : r = c
  · rw [if_pos e, if_pos e]; show _ = xr 0 (Gf.mul (M c k) s); rw [z_xr, e]
  · rw [if_neg e, if_neg e]
/-- Rows ahead of i, but c, less their multiple of row c. -/
def lessTo (i c : Nat) (t : Nat → Nat) (Z : Nat → Nat → Nat) (r k : Nat) : Nat := if r = c ∨ ¬ r < i then Z r k else xr (Z r k) (Gf.mul (Z c k) (t r))
theorem lessTo_b {i c : Nat} {t : Nat → Nat} {Z : Nat → Nat → Nat} (h : AllB Z) : AllB (lessTo i c t Z) := fun r k => by
  unfold lessTo; split
  · exact h r k
  · exact xr_lt8 (h r k) (Gf.mul_lt _ _)
theorem det_lessTo {n c : Nat} {t : Nat → Nat} {Z : Nat → Nat → Nat} (ht : ∀ r, t r < 256) (hZ : AllB Z) (hc : c < n) : ∀ i, i ≤ n → detZ n (lessTo i c t Z) = detZ n Z
  | 0, _ => det_congr fun r k _ _ => by unfold lessTo; rw [if_pos (Or.inr (by omega))]
  | i + 1, hi => by
    rw [← det_lessTo ht hZ hc i (by omega)]
    by_cases e : i = c
    · refine det_congr fun r k _ _ => ?_
      unfold lessTo
      by_cases q : r = c
      · rw [if_pos (Or.inl q), if_pos (Or.inl q)]
      · by_cases q2 : r < i
        · rw [if_neg (fun h => h.elim q (fun h => h (by omega))), if_neg (fun h => h.elim q (fun h => h q2))]
        · rw [if_pos (Or.inr (by omega)), if_pos (Or.inr q2)]
    · rw [← det_add (r := i) (q := c) (s := t i) (ht i) (lessTo_b (i := i) (c := c) (t := t) hZ) (by omega) hc e]
      refine det_congr fun r k _ _ => ?_
      unfold addR setR
      by_cases q : r = i
      · subst q
        rw [if_pos rfl]
        show lessTo (r + 1) c t Z r k = xr (lessTo r c t Z r k) (Gf.mul (lessTo r c t Z c k) (t r))
        unfold lessTo
        rw [if_neg (fun h => h.elim e (fun h => h (by omega))), if_pos (Or.inr (by omega)), if_pos (Or.inl rfl)]
      · rw [if_neg q]
        unfold lessTo
        by_cases q1 : r = c ∨ ¬ r < i
        · rw [if_pos q1, if_pos (q1.imp id (fun h => by omega))]
        · rw [if_neg q1, if_neg (fun h => q1 (h.imp id (fun h => by omega)))]
theorem det_less {n c : Nat} {t : Nat → Nat} {Z : Nat → Nat → Nat} (ht : ∀ r, t r < 256) (hZ : AllB Z) (hc : c < n) : detZ n (lessBy c t Z) = detZ n Z := by
  rw [← det_lessTo ht hZ hc n (Nat.le_refl _)]
  refine det_congr fun r k hr _ => ?_
  unfold lessBy lessTo
  by_cases q : r = c
  · rw [if_pos q, if_pos (Or.inl q)]
  · rw [if_neg q, if_neg (fun h => h.elim q (fun h => h hr))]
theorem det_step {n c p : Nat} {W : Nat → Nat → Nat} (hW : AllB W) (hc : c < n) (hp : p < n) : detZ n (stepZ c p W) = Gf.mul (detZ n W) (Gf.quo 1 (W p c)) := by
  have hs : AllB (swapZ c p W) := fun r k => hW _ _
  rw [stepZ_eq, det_less (fun r => scale_b _ hs r c) (scale_b _ hs) hc, det_scale (Gf.quo_lt _ _) hs hc, det_swap hW hc hp]
theorem det_one : ∀ n, detZ n oneZ = 1
  | 0 => rfl
  | n + 1 => by
    show xsum (n + 1) _ = 1
    rw [xsum_single (i := 0) (fun i => Gf.mul (oneZ i 0) (detZ n (minZ i oneZ))) (by omega) fun j _ hj => by unfold oneZ; rw [if_neg hj, Gf.zero_mul]]
    show Gf.mul (oneZ 0 0) (detZ n (minZ 0 oneZ)) = 1
    rw [det_congr (N := oneZ) fun r c _ _ => ?_, det_one n]
    · unfold oneZ; rw [if_pos rfl, Gf.mul_one (by omega)]
    · show oneZ (skip 0 r) (c + 1) = oneZ r c
      rw [show skip 0 r = r + 1 from if_neg (by omega)]
      unfold oneZ
      by_cases e : r = c
      · rw [if_pos (by omega), if_pos e]
      · rw [if_neg (by omega), if_neg e]
theorem det_stuck : ∀ (c n : Nat) (W : Nat → Nat → Nat), Cleared n c W → c < n → (∀ r, c ≤ r → r < n → W r c = 0) → detZ n W = 0
  | _, 0, W, _, hc, _ => absurd hc (Nat.not_lt_zero _)
  | 0, n + 1, W, _, _, h0 => xsum_none fun i hi => by rw [h0 i (by omega) hi, Gf.zero_mul]
  | c + 1, n + 1, W, hcl, hc, h0 => by
    show xsum (n + 1) _ = 0
    refine xsum_none fun i hi => ?_
    by_cases e : i = 0
    · subst e
      rw [det_stuck c n (minZ 0 W) (fun r k hr hk => ?_) (by omega) (fun r h1 h2 => ?_), Gf.mul_zero]
      · show W (skip 0 r) (k + 1) = _
        unfold skip
        rw [if_neg (by omega), hcl (r + 1) (k + 1) (by omega) (by omega)]
        unfold oneZ
        by_cases e : r = k
        · rw [if_pos (by omega), if_pos e]
        · rw [if_neg (by omega), if_neg e]
      · show W (skip 0 r) (c + 1) = 0
        unfold skip
        rw [if_neg (by omega)]
        exact h0 (r + 1) (by omega) (by omega)
    · rw [hcl i 0 hi (by omega)]
      unfold oneZ
      rw [if_neg e, Gf.zero_mul]
#print axioms det_stuck
#print axioms det_step
#print axioms det_one
end Go.Proofs.Ytlgdajmidcdiaaa
