/-
  Matrices over the field, in plain numbers: products in any order, One, the elimination that finds an inverse or shows that there is none. No program is named here. mat.Inv, walked: what it answers is what the elimination leaves. The document's One, walked. The document's Cauchy, walked; One and Cauchy where they are told an error. The document's Mul, walked. What tells whether a square matrix has an inverse, by its first column: what the elimination's steps do tto it. No program is named here.
-/
import Derived.Test.YtlbdopcchoklhaaGreatMh10
import Derived.Test.YtlbdopcchoklhaaGreatMh14
import Derived.Test.YtlbdopcchoklhaaGreatMh12
import Derived.Test.YtlbdopcchoklhaaGreatMh13
namespace Go.Proofs.YtlbdopcchoklhaaGreat
set_option linter.unusedVariables false
set_option maxRecDepth 100000

/-! ### sums -/
theorem xr_comm (a b : Nat) : xr a b = xr b a := Nat.xor_comm a b
theorem xr_assoc (a b c : Nat) : xr (xr a b) c = xr a (xr b c) := Nat.xor_assoc a b c
theorem xr_self (a : Nat) : xr a a = 0 := Nat.xor_self a
theorem xr_z (a : Nat) : xr a 0 = a := Nat.xor_zero a
theorem z_xr (a : Nat) : xr 0 a = a := Nat.zero_xor a
theorem xr_four (a b c d : Nat) : xr (xr a b) (xr c d) = xr (xr a c) (xr b d) := by
  rw [xr_assoc, xr_assoc, ← xr_assoc b, xr_comm b c, xr_assoc c]
theorem xr_eq {a b : Nat} (h : xr a b = 0) : a = b := by
  have : xr (xr a b) b = xr 0 b := by rw [h]
  rwa [xr_assoc, xr_self, xr_z, z_xr] at this
theorem xr_lt8 {a b : Nat} (ha : a < 256) (hb : b < 256) : xr a b < 256 := Gf.xor_lt ha hb
theorem xsum_zero (n : Nat) : xsum n (fun _ => 0) = 0 := by
  induction n with
  | zero => rfl
  | succ n ih => show xr (xsum n _) 0 = 0; rw [ih]; rfl
theorem xsum_none {n : Nat} {f : Nat → Nat} (h : ∀ j, j < n → f j = 0) : xsum n f = 0 := by rw [xsum_congr h, xsum_zero]
theorem xsum_add (n : Nat) (f g : Nat → Nat) : xsum n (fun j => xr (f j) (g j)) = xr (xsum n f) (xsum n g) := by
  induction n with
  | zero => exact (xr_z 0).symm
  | succ n ih => show xr (xsum n _) (xr (f n) (g n)) = xr (xr _ _) (xr _ _); rw [ih, xr_four]
theorem xsum_swap (n m : Nat) (f : Nat → Nat → Nat) : xsum n (fun i => xsum m (fun j => f i j)) = xsum m (fun j => xsum n (fun i => f i j)) := by
  induction n with
  | zero => exact (xsum_zero m).symm
  | succ n ih => show xr (xsum n _) (xsum m _) = xsum m (fun j => xr (xsum n fun i => f i j) (f n j)); rw [ih, xsum_add]
theorem xsum_single {n i : Nat} (f : Nat → Nat) (hi : i < n) (h : ∀ j, j < n → j ≠ i → f j = 0) : xsum n f = f i := by
  induction n with
  | zero => omega
  | succ n ih =>
    show xr (xsum n f) (f n) = f i
    by_cases e : n = i
    · subst e; rw [xsum_none fun j hj => h j (by omega) (by omega), z_xr]
    · rw [h n (by omega) e, xr_z, ih (by omega) fun j hj => h j (by omega)]
theorem one_mul' {a : Nat} (h : a < 256) : Gf.mul 1 a = a := by rw [Gf.mul_comm, Gf.mul_one h]
theorem mul_xr {a b c : Nat} (ha : a < 256) (hb : b < 256) (hc : c < 256) : Gf.mul a (xr b c) = xr (Gf.mul a b) (Gf.mul a c) := Gf.mul_xor ha hb hc
theorem xr_mul {a b c : Nat} (ha : a < 256) (hb : b < 256) (hc : c < 256) : Gf.mul (xr b c) a = xr (Gf.mul b a) (Gf.mul c a) := by rw [Gf.mul_comm, mul_xr ha hb hc, Gf.mul_comm a, Gf.mul_comm a]
theorem mul_xsum {a n : Nat} {f : Nat → Nat} (ha : a < 256) (h : ∀ j, j < n → f j < 256) : Gf.mul a (xsum n f) = xsum n (fun j => Gf.mul a (f j)) := by
  induction n with
  | zero => exact Gf.mul_zero a
  | succ n ih =>
    show Gf.mul a (xr (xsum n f) (f n)) = xr _ _
    rw [mul_xr ha (xsum_lt fun j hj => h j (by omega)) (h n (by omega)), ih fun j hj => h j (by omega)]
theorem xsum_mul {a n : Nat} {f : Nat → Nat} (ha : a < 256) (h : ∀ j, j < n → f j < 256) : Gf.mul (xsum n f) a = xsum n (fun j => Gf.mul (f j) a) := by
  rw [Gf.mul_comm, mul_xsum ha h]; exact xsum_congr fun j _ => Gf.mul_comm _ _

/-! ### products -/
def AllB (Z : Nat → Nat → Nat) : Prop := ∀ r c, Z r c < 256
theorem AllB.mul (k : Nat) (a b : Nat → Nat → Nat) : AllB (mulZ k a b) := fun r c => mulZ_lt k a b r c
theorem AllB.one : AllB oneZ := fun r c => by unfold oneZ; split <;> omega
/-- The same, for n rows and m columns. -/
def Eq2 (n m : Nat) (Z Y : Nat → Nat → Nat) : Prop := ∀ r c, r < n → c < m → Z r c = Y r c
theorem Eq2.refl (n m : Nat) (Z : Nat → Nat → Nat) : Eq2 n m Z Z := fun _ _ _ _ => rfl
theorem Eq2.symm {n m : Nat} {Z Y : Nat → Nat → Nat} (h : Eq2 n m Z Y) : Eq2 n m Y Z := fun r c hr hc => (h r c hr hc).symm
theorem Eq2.trans {n m : Nat} {Z Y X : Nat → Nat → Nat} (h : Eq2 n m Z Y) (k : Eq2 n m Y X) : Eq2 n m Z X := fun r c hr hc => (h r c hr hc).trans (k r c hr hc)
theorem Eq2.mul {n k m : Nat} {A A' B B' : Nat → Nat → Nat} (h : Eq2 n k A A') (g : Eq2 k m B B') : Eq2 n m (mulZ k A B) (mulZ k A' B') := fun r c hr hc => xsum_congr fun j hj => by rw [h r j hr hj, g j c hj hc]
theorem mulZ_assoc {k m : Nat} {A B C : Nat → Nat → Nat} (hA : AllB A) (hB : AllB B) (hC : AllB C) (r c : Nat) : mulZ m (mulZ k A B) C r c = mulZ k A (mulZ m B C) r c := by
  show xsum m (fun j => Gf.mul (xsum k fun i => Gf.mul (A r i) (B i j)) (C j c)) = xsum k (fun i => Gf.mul (A r i) (xsum m fun j => Gf.mul (B i j) (C j c)))
  have e1 : ∀ j, j < m → Gf.mul (xsum k fun i => Gf.mul (A r i) (B i j)) (C j c) = xsum k (fun i => Gf.mul (A r i) (Gf.mul (B i j) (C j c))) := fun j _ => by
    rw [xsum_mul (hC j c) fun i _ => Gf.mul_lt _ _]; exact xsum_congr fun i _ => Gf.mul_assoc (hA r i) (hB i j) (hC j c)
  have e2 : ∀ i, i < k → Gf.mul (A r i) (xsum m fun j => Gf.mul (B i j) (C j c)) = xsum m (fun j => Gf.mul (A r i) (Gf.mul (B i j) (C j c))) := fun i _ => mul_xsum (hA r i) fun j _ => Gf.mul_lt _ _
  rw [xsum_congr e1, xsum_congr e2, xsum_swap]
theorem one_mulZ {n : Nat} {B : Nat → Nat → Nat} (hB : AllB B) {r : Nat} (hr : r < n) (c : Nat) : mulZ n oneZ B r c = B r c := by
  unfold mulZ
  rw [xsum_single (i := r) _ hr fun j _ hj => by unfold oneZ; rw [if_neg (fun e => hj e.symm), Gf.zero_mul]]
  unfold oneZ; rw [if_pos rfl, one_mul' (hB r c)]
theorem mulZ_one {n : Nat} {A : Nat → Nat → Nat} (hA : AllB A) {c : Nat} (hc : c < n) (r : Nat) : mulZ n A oneZ r c = A r c := by
  unfold mulZ
  rw [xsum_single (i := c) _ hc fun j _ hj => by unfold oneZ; rw [if_neg hj, Gf.mul_zero]]
  unfold oneZ; rw [if_pos rfl, Gf.mul_one (hA r c)]

/-! ### the steps, linear in the rows -/
def lessBy (c : Nat) (t : Nat → Nat) (Z : Nat → Nat → Nat) (r k : Nat) : Nat := if r = c then Z r k else xr (Z r k) (Gf.mul (Z c k) (t r))
/-- A turn of rows that can be turned back, and is the same for all columns. -/
structure RowOp (n : Nat) (f g : (Nat → Nat → Nat) → Nat → Nat → Nat) : Prop where
  b : ∀ Z, AllB Z → AllB (f Z)
  b' : ∀ Z, AllB Z → AllB (g Z)
  cols : ∀ (Z : Nat → Nat → Nat) (h : Nat → Nat) r k, f Z r (h k) = f (fun r k => Z r (h k)) r k
  lin : ∀ (k : Nat) A B, AllB A → AllB B → ∀ r c, r < n → f (mulZ k A B) r c = mulZ k (f A) B r c
  lin' : ∀ (k : Nat) A B, AllB A → AllB B → ∀ r c, r < n → g (mulZ k A B) r c = mulZ k (g A) B r c
  back : ∀ Z, AllB Z → ∀ r c, r < n → g (f Z) r c = Z r c
  loc : ∀ Z Y r k, (∀ r, r < n → Z r k = Y r k) → r < n → f Z r k = f Y r k
  loc' : ∀ Z Y r k, (∀ r, r < n → Z r k = Y r k) → r < n → g Z r k = g Y r k
theorem op_swap {n c p : Nat} (hc : c < n) (hp : p < n) : RowOp n (swapZ c p) (swapZ c p) where
  b := fun Z h r c => h _ _
  b' := fun Z h r c => h _ _
  cols := fun _ _ _ _ => rfl
  lin := fun _ _ _ _ _ _ _ _ => rfl
  lin' := fun _ _ _ _ _ _ _ _ => rfl
  back := fun Z _ r k _ => by unfold swapZ; rw [sw_sw]
  loc := fun Z Y r k h hr => h _ (sw_lt hc hp hr)
  loc' := fun Z Y r k h hr => h _ (sw_lt hc hp hr)
theorem scale_b {c s : Nat} (Z : Nat → Nat → Nat) (h : AllB Z) : AllB (scaleZ c s Z) := fun r k => by
  unfold scaleZ; split
  · exact Gf.mul_lt _ _
  · exact h r k
theorem scale_lin {c s : Nat} (hs : s < 256) (k : Nat) (A B : Nat → Nat → Nat) (hA : AllB A) (hB : AllB B) (r q : Nat) : scaleZ c s (mulZ k A B) r q = mulZ k (scaleZ c s A) B r q := by
  unfold scaleZ mulZ
  by_cases e : r = c
  · rw [if_pos e, xsum_mul hs fun _ _ => Gf.mul_lt _ _]
    refine xsum_congr fun j _ => ?_
    show _ = Gf.mul (if r = c then Gf.mul (A r j) s else A r j) (B j q)
    rw [if_pos e, Gf.mul_assoc (hA r j) (hB j q) hs, Gf.mul_comm (B j q), Gf.mul_assoc (hA r j) hs (hB j q)]
  · rw [if_neg e]
    exact xsum_congr fun j _ => by show _ = Gf.mul (if r = c then Gf.mul (A r j) s else A r j) (B j q); rw [if_neg e]
theorem op_scale {n c s : Nat} (hc : c < n) (hs : s < 256) (s0 : 0 < s) : RowOp n (scaleZ c s) (scaleZ c (Gf.quo 1 s)) where
  b := fun Z h => scale_b Z h
  b' := fun Z h => scale_b Z h
  cols := fun _ _ _ _ => rfl
  lin := fun k A B hA hB r q _ => scale_lin hs k A B hA hB r q
  lin' := fun k A B hA hB r q _ => scale_lin (Gf.quo_lt _ _) k A B hA hB r q
  back := fun Z h r k _ => by
    unfold scaleZ
    by_cases e : r = c
    · rw [if_pos e, if_pos e, Gf.mul_assoc (h r k) hs (Gf.quo_lt _ _), Gf.mul_comm s, Gf.mul_quo (by omega) hs s0, Gf.mul_one (h r k)]
    · rw [if_neg e, if_neg e]
  loc := fun Z Y r k h hr => by unfold scaleZ; rw [h r hr]
  loc' := fun Z Y r k h hr => by unfold scaleZ; rw [h r hr]
theorem less_b {c : Nat} {t : Nat → Nat} (Z : Nat → Nat → Nat) (h : AllB Z) : AllB (lessBy c t Z) := fun r k => by
  unfold lessBy; split
  · exact h r k
  · exact xr_lt8 (h r k) (Gf.mul_lt _ _)
theorem less_lin {c : Nat} {t : Nat → Nat} (ht : ∀ r, t r < 256) (k : Nat) (A B : Nat → Nat → Nat) (hA : AllB A) (hB : AllB B) (r q : Nat) : lessBy c t (mulZ k A B) r q = mulZ k (lessBy c t A) B r q := by
  unfold lessBy mulZ
  by_cases e : r = c
  · rw [if_pos e]
    exact xsum_congr fun j _ => by show _ = Gf.mul (if r = c then A r j else xr (A r j) (Gf.mul (A c j) (t r))) (B j q); rw [if_pos e]
  · rw [if_neg e, xsum_mul (ht r) fun _ _ => Gf.mul_lt _ _, ← xsum_add]
    refine xsum_congr fun j _ => ?_
    show _ = Gf.mul (if r = c then A r j else xr (A r j) (Gf.mul (A c j) (t r))) (B j q)
    rw [if_neg e, xr_mul (hB j q) (hA r j) (Gf.mul_lt _ _), Gf.mul_assoc (hA c j) (hB j q) (ht r), Gf.mul_comm (B j q), Gf.mul_assoc (hA c j) (ht r) (hB j q)]
theorem op_less {n c : Nat} {t : Nat → Nat} (hc : c < n) (ht : ∀ r, t r < 256) : RowOp n (lessBy c t) (lessBy c t) where
  b := fun Z h => less_b Z h
  b' := fun Z h => less_b Z h
  cols := fun _ _ _ _ => rfl
  lin := fun k A B hA hB r q _ => less_lin ht k A B hA hB r q
  lin' := fun k A B hA hB r q _ => less_lin ht k A B hA hB r q
  back := fun Z h r k _ => by
    unfold lessBy
    by_cases e : r = c
    · rw [if_pos e, if_pos e]
    · rw [if_neg e, if_neg e, if_pos rfl, xr_assoc, xr_self, xr_z]
  loc := fun Z Y r k h hr => by unfold lessBy; rw [h r hr, h c hc]
  loc' := fun Z Y r k h hr => by unfold lessBy; rw [h r hr, h c hc]

/-! ### what stands when c columns are cleared -/
def left (n : Nat) (W : Nat → Nat → Nat) (r k : Nat) : Nat := W r (n + k)
/-- W is M beside One, turned: its right half times M is its left half, and what turns it back is D. -/
structure Turned (n : Nat) (M W D : Nat → Nat → Nat) : Prop where
  b : AllB W
  d : AllB D
  a : Eq2 n n (mulZ n (left n W) M) W
  m : Eq2 n n (mulZ n D W) M
  i : Eq2 n n (mulZ n D (left n W)) oneZ
theorem bes_b {n : Nat} {M : Nat → Nat → Nat} (hM : AllB M) : AllB (besZ n M) := fun r k => by
  unfold besZ; split
  · exact hM r k
  · split <;> omega
theorem left_bes {n : Nat} {M : Nat → Nat → Nat} (r k : Nat) : left n (besZ n M) r k = oneZ r k := by
  unfold left besZ oneZ
  rw [if_neg (by omega)]
  by_cases e : r = k
  · rw [if_pos (by omega), if_pos e]
  · rw [if_neg (by omega), if_neg e]
theorem left_b {n : Nat} {W : Nat → Nat → Nat} (h : AllB W) : AllB (left n W) := fun r k => h _ _
theorem Turned.start {n : Nat} {M : Nat → Nat → Nat} (hM : AllB M) : Turned n M (besZ n M) oneZ where
  b := bes_b hM
  d := AllB.one
  a := fun r c hr hc => by
    rw [show mulZ n (left n (besZ n M)) M r c = mulZ n oneZ M r c from xsum_congr fun j _ => by rw [left_bes], one_mulZ hM hr]
    unfold besZ; rw [if_pos hc]
  m := fun r c hr hc => by rw [one_mulZ (bes_b hM) hr]; unfold besZ; rw [if_pos hc]
  i := fun r c hr hc => by rw [one_mulZ (left_b (bes_b hM)) hr, left_bes]
theorem Turned.op {n : Nat} {M W D : Nat → Nat → Nat} {f g : (Nat → Nat → Nat) → Nat → Nat → Nat} (hM : AllB M) (h : Turned n M W D) (o : RowOp n f g) : Turned n M (f W) (mulZ n D (g oneZ)) := by
  have hg1 := o.b' _ AllB.one
  have hback : ∀ Z, AllB Z → Eq2 n n (mulZ n (g oneZ) (f Z)) Z := fun Z hZ r c hr hc => by
    rw [← o.lin' n oneZ (f Z) AllB.one (o.b Z hZ) r c hr, o.loc' _ (f Z) r c (fun q hq => one_mulZ (o.b Z hZ) hq c) hr, o.back Z hZ r c hr]
  have hl : left n (f W) = f (left n W) := by funext r k; exact o.cols W (fun k => n + k) r k
  have hfl := o.b _ (left_b (n := n) h.b)
  refine ⟨o.b W h.b, AllB.mul _ _ _, ?_, ?_, ?_⟩
  · intro r c hr hc
    rw [hl, ← o.lin n (left n W) M (left_b h.b) hM r c hr]
    exact o.loc _ _ r c (fun q hq => h.a q c hq hc) hr
  · intro r c hr hc
    rw [mulZ_assoc h.d hg1 (o.b W h.b)]
    exact (Eq2.mul (Eq2.refl n n D) (hback W h.b)).trans h.m r c hr hc
  · intro r c hr hc
    rw [hl, mulZ_assoc h.d hg1 hfl]
    exact (Eq2.mul (Eq2.refl n n D) (hback _ (left_b h.b))).trans h.i r c hr hc
/-- The columns ahead of c are One's. -/
def Cleared (n c : Nat) (W : Nat → Nat → Nat) : Prop := ∀ r k, r < n → k < c → W r k = oneZ r k
theorem stepZ_eq (c p : Nat) (W : Nat → Nat → Nat) : stepZ c p W = lessBy c (fun r => scaleZ c (Gf.quo 1 (W p c)) (swapZ c p W) r c) (scaleZ c (Gf.quo 1 (W p c)) (swapZ c p W)) := rfl
theorem quo_pos {b : Nat} (hb : b < 256) (b0 : 0 < b) : 0 < Gf.quo 1 b := by
  unfold Gf.quo; rw [if_neg (by omega)]; exact Gf.ex_pos _
theorem Turned.step {n c p : Nat} {M W D : Nat → Nat → Nat} (hM : AllB M) (h : Turned n M W D) (hc : c < n) (hp : p < n) (h0 : 0 < W p c) : ∃ D', Turned n M (stepZ c p W) D' := by
  have h1 := h.op hM (op_swap hc hp)
  have h2 := h1.op hM (op_scale hc (Gf.quo_lt 1 (W p c)) (quo_pos (h.b p c) h0))
  have h3 := h2.op hM (op_less (t := fun r => scaleZ c (Gf.quo 1 (W p c)) (swapZ c p W) r c) hc (fun r => h2.b r c))
  exact ⟨_, by rw [stepZ_eq]; exact h3⟩
theorem Cleared.step {n c p : Nat} {W : Nat → Nat → Nat} (hb : AllB W) (h : Cleared n c W) (hc : c < n) (hcp : c ≤ p) (hp : p < n) (h0 : 0 < W p c) : Cleared n (c + 1) (stepZ c p W) := by
  have hswc : sw c p c = p := if_pos rfl
  have hmul : Gf.mul (W p c) (Gf.quo 1 (W p c)) = 1 := by rw [Gf.mul_comm, Gf.mul_quo (by omega) (hb p c) h0]
  intro r k hr hk
  rw [stepZ_eq]
  by_cases hkc : k = c
  · subst hkc
    have e1 : scaleZ k (Gf.quo 1 (W p k)) (swapZ k p W) k k = 1 := by unfold scaleZ swapZ; rw [if_pos rfl, hswc, hmul]
    unfold lessBy
    by_cases e : r = k
    · rw [if_pos e, e, e1]; unfold oneZ; rw [if_pos rfl]
    · rw [if_neg e, e1]
      show xr (scaleZ k (Gf.quo 1 (W p k)) (swapZ k p W) r k) (Gf.mul 1 (scaleZ k (Gf.quo 1 (W p k)) (swapZ k p W) r k)) = _
      rw [one_mul' (scale_b (swapZ k p W) (fun r c => hb _ _) r k), xr_self]; unfold oneZ; rw [if_neg e]
  · have hk' : k < c := by omega
    have z0 : W p k = 0 := by rw [h p k hp hk']; unfold oneZ; rw [if_neg (by omega)]
    have e1 : scaleZ c (Gf.quo 1 (W p c)) (swapZ c p W) c k = 0 := by unfold scaleZ swapZ; rw [if_pos rfl, hswc, z0, Gf.zero_mul]
    unfold lessBy
    by_cases e : r = c
    · rw [if_pos e, e, e1]; unfold oneZ; rw [if_neg (by omega)]
    · rw [if_neg e, e1, Gf.zero_mul, xr_z]
      unfold scaleZ swapZ
      rw [if_neg e]
      unfold sw
      rw [if_neg e]
      by_cases e2 : r = p
      · rw [if_pos e2, h c k hc hk', e2]; unfold oneZ; rw [if_neg (by omega), if_neg (by omega)]
      · rw [if_neg e2, h r k hr hk']
/-- All columns are cleared: the right half is the inverse, on both sides. -/
theorem Turned.done {n : Nat} {M W D : Nat → Nat → Nat} (hM : AllB M) (h : Turned n M W D) (hc : Cleared n n W) : Eq2 n n (mulZ n (left n W) M) oneZ ∧ Eq2 n n (mulZ n M (left n W)) oneZ := by
  have hW : Eq2 n n W oneZ := fun r k hr hk => hc r k hr hk
  refine ⟨h.a.trans hW, ?_⟩
  have hDM : Eq2 n n D M := fun r c hr hcn => by
    have := h.m r c hr hcn
    rw [← mulZ_one h.d hcn r]
    rw [← this]
    exact xsum_congr fun j hj => by rw [hW j c hj hcn]
  exact (Eq2.mul hDM.symm (Eq2.refl n n _)).trans h.i
/-- No pivot: there is something that M makes nothing of. -/
theorem Turned.stuck {n c : Nat} {M W D : Nat → Nat → Nat} (hM : AllB M) (h : Turned n M W D) (hcl : Cleared n c W) (hc : c < n) (h0 : ∀ r, c ≤ r → r < n → W r c = 0) :
    ∃ x : Nat → Nat, (∀ j, x j < 256) ∧ x c = 1 ∧ ∀ r, r < n → xsum n (fun j => Gf.mul (M r j) (x j)) = 0 := by
  obtain ⟨x, hx⟩ : ∃ x : Nat → Nat, x = fun j => if j < c then W j c else if j = c then 1 else 0 := ⟨_, rfl⟩
  have xb : ∀ j, x j < 256 := fun j => by
    rw [hx]; show (if j < c then W j c else if j = c then 1 else 0) < 256
    split
    · exact h.b j c
    · split <;> omega
  have hWx : ∀ r, r < n → xsum n (fun j => Gf.mul (W r j) (x j)) = 0 := fun r hr => by
    have e : ∀ j, j < n → Gf.mul (W r j) (x j) = xr (if j = r ∧ r < c then W r c else 0) (if j = c then W r c else 0) := fun j hj => by
      rw [hx]
      show Gf.mul (W r j) (if j < c then W j c else if j = c then 1 else 0) = _
      by_cases h1 : j < c
      · rw [if_pos h1, if_neg (show ¬ j = c by omega), xr_z, hcl r j hr h1]
        unfold oneZ
        by_cases h2 : r = j
        · subst h2; rw [if_pos rfl, if_pos ⟨rfl, h1⟩, one_mul' (h.b r c)]
        · rw [if_neg h2, Gf.zero_mul, if_neg (fun q => h2 q.1.symm)]
      · rw [if_neg h1]
        by_cases h2 : j = c
        · rw [if_pos h2, if_pos h2, if_neg (fun q => h1 (by rw [q.1]; exact q.2)), z_xr, h2, Gf.mul_one (h.b r c)]
        · rw [if_neg h2, if_neg h2, Gf.mul_zero, if_neg (fun q => h1 (by rw [q.1]; exact q.2))]; rfl
    rw [xsum_congr e, xsum_add]
    rw [xsum_single (i := c) (fun j => if j = c then W r c else 0) hc (fun j _ hj => if_neg hj)]
    show xr _ (if c = c then W r c else 0) = 0
    rw [if_pos rfl]
    by_cases hrc : r < c
    · rw [xsum_single (i := r) (fun j => if j = r ∧ r < c then W r c else 0) hr (fun j _ hj => if_neg (fun q => hj q.1))]
      show xr (if r = r ∧ r < c then W r c else 0) _ = 0
      rw [if_pos ⟨rfl, hrc⟩, xr_self]
    · rw [xsum_none (fun j _ => if_neg (fun q => hrc q.2)), h0 r (by omega) hr]; rfl
  refine ⟨x, xb, ?_, fun r hr => ?_⟩
  · rw [hx]; show (if c < c then W c c else if c = c then 1 else 0) = 1; rw [if_neg (by omega), if_pos rfl]
  · have e1 : xsum n (fun j => Gf.mul (M r j) (x j)) = mulZ n (mulZ n D W) (fun j _ => x j) r 0 := xsum_congr fun j hj => by rw [h.m r j hr hj]
    rw [e1, mulZ_assoc h.d h.b (fun j _ => xb j)]
    exact xsum_none fun j hj => by
      show Gf.mul (D r j) (xsum n fun i => Gf.mul (W j i) (x i)) = 0
      rw [hWx j hj, Gf.mul_zero]
end Go.Proofs.YtlbdopcchoklhaaGreat
namespace Go.Proofs.YtlbdopcchoklhaaGreat
open Go.RowKit
set_option linter.unusedVariables false
set_option maxRecDepth 100000

/-- What stands when c columns of X beside One are cleared, whatever the pivots. -/
def Reach (n : Nat) (X : Nat → Nat → Nat) : Nat → (Nat → Nat → Nat) → Prop
  | 0, W => W = besZ n X
  | c + 1, W => ∃ p V, Reach n X c V ∧ c < n ∧ c ≤ p ∧ p < n ∧ 0 < V p c ∧ W = stepZ c p V
theorem Reach.start {n : Nat} {X : Nat → Nat → Nat} : Reach n X 0 (besZ n X) := rfl
theorem Reach.step {n : Nat} {X : Nat → Nat → Nat} {c p : Nat} {W : Nat → Nat → Nat} (h : Reach n X c W) (hc : c < n) (hcp : c ≤ p) (hp : p < n) (h0 : 0 < W p c) : Reach n X (c + 1) (stepZ c p W) := ⟨p, W, h, hc, hcp, hp, h0, rfl⟩
theorem Reach.turned {n : Nat} {X : Nat → Nat → Nat} (hX : AllB X) : ∀ {c : Nat} {W : Nat → Nat → Nat}, Reach n X c W → (∃ D, Turned n X W D) ∧ Cleared n c W
  | 0, W, h => by
    have e : W = besZ n X := h
    subst e
    exact ⟨⟨_, Turned.start hX⟩, fun r k _ hk => absurd hk (Nat.not_lt_zero k)⟩
  | c + 1, W, h => by
    obtain ⟨p, V, hV, hc, hcp, hp, h0, rfl⟩ := h
    obtain ⟨⟨D, ht⟩, hcl⟩ := Reach.turned hX hV
    exact ⟨ht.step hX hc hp h0, hcl.step ht.b hc hcp hp h0⟩
def InvPost (n : Nat) (X : Nat → Nat → Nat) (w : World) (e : Ending) (w' : World) : Prop :=
  (∃ W, Reach n X n W ∧ MatPost n n (left n W) w e w') ∨ (∃ c W, c < n ∧ Reach n X c W ∧ (∀ r, c ≤ r → r < n → W r c = 0) ∧ ErrPost 5 w e w')
def InvRel (w wr : World) (s gf g n c : Nat) (X : Nat → Nat → Nat) : Prop :=
  ∃ B W, Own wr g n (2 * n) B W ∧ Reach n X c W ∧ (∀ r, r < n → s ≤ B r) ∧ fullAt wr gf ∧ Ch (fun j => s ≤ j) w wr
theorem two_sub (n : Nat) : 2 * n - n = n := by omega
set_option maxHeartbeats 1600000 in
theorem inv_yes (va : Value) (n : Nat) (L : Nat → Nat) (X : Nat → Nat → Nat) (w : World) (ha : MatV w va n L X) (m1 : mayBF n L = true) (hk : L 0 = n) :
    Calls Tryz.prog 118 #[va] w (InvPost n X w) := by
  obtain ⟨n1, n2, l1, l2, hL⟩ := mayB_true m1
  obtain ⟨ba, oa, Ca, rfl, _, hra⟩ := ha.some (by omega)
  obtain ⟨A0, D0, ca0, _, _⟩ := hra 0 (by omega)
  rw [Nat.add_zero, hk] at ca0
  have HA := Lib.hid ha
  have HAn := Lib.hid (ha.lens (M := fun _ => n) (fun r hr => by rw [hL r hr, hk]))
  have b1 : ((n : Int) != (n : Int)) = false := by simp
  have npos : 0 < n := by omega
  clear hra ha hL hk
  go_enter Tryz.func118, Tryz.ntmps118
  go_wp2_with fail
  refine (may_anyF _ n L X _ HA.out).mono ?_
  rintro e w1 ⟨rfl, rfl⟩
  go_wp2_with fail
  refine (new_anyF _).mono ?_
  rintro e w1 ⟨rfl, hfull, hg⟩
  have hlt := hfull.lt
  have hch1 : Ch (fun _ => False) w w1 := Gr.ch hg _
  have HC1 := Lib.hid hch1
  have HF := Lib.hid hfull
  have HA1 := Lib.hid (HAn.out.gr hch1)
  clear hfull hg hch1 ca0
  go_wp2_with fail
  refine (beside_any _ n X _ n1 n2 HA1.out).mono ?_
  rintro e w2 ⟨g, B, rfl, hown, hB, hg, hch2⟩
  have h0 : InvRel w2 w2 w1.heap.size w.heap.size g n 0 X := ⟨B, _, hown, Reach.start, hB, fullAt.ch HF.out hch2 (fun f => f), Ch.refl _ _⟩
  have HCW := Lib.hid (HC1.out.trans hch2)
  have H0 := Lib.hid h0
  clear hown hB hch2 h0
  go_wp2
  go_loopw [26, 7] (fun i _ wr => ∃ c : Nat, c ≤ n ∧ i = .int .i64 c ∧ Hid (InvRel w2 wr w1.heap.size w.heap.size g n c X)) (fun i _ _ => n - (intOf i).toNat)
  case atStart => exact ⟨0, Nat.zero_le _, rfl, H0⟩
  case round =>
    obtain ⟨c, hc, rfl, HI⟩ := hrel
    obtain ⟨B, W, hown, hreach, hB, hfull, hch⟩ := HI.out
    by_cases hlt2 : c < n
    · have HO := Lib.hid hown
      have HRE := Lib.hid hreach
      have HB := Lib.hid hB
      have HFU := Lib.hid hfull
      have HCH := Lib.hid hch
      clear hown hreach hB hfull hch
      go_wp2_with fail
      refine (clear_any w1.heap.size w.heap.size g n (2 * n) c B W wr HO.out HFU.out (by omega) hg HB.out n2 (by omega) hlt2 (by omega)).mono ?_
      rintro e w3 (⟨rfl, hz, hc3⟩ | ⟨p, B', rfl, hcp, hp, h0, hown, hB', hc3⟩)
      · have HZ := Lib.hid hz
        have HC3 := Lib.hid hc3
        clear hz hc3
        go_wp2
        go_ret2
        refine Or.inr ⟨c, W, hlt2, HRE.out, HZ.out, rfl, ?_⟩
        exact (((HCW.out.mono fun _ _ f => f.elim).trans HCH.out).trans (HC3.out.mono fun _ _ f => f.elim)).mono fun i hi hS => by have := HC1.out.size; omega
      · have hnext : InvRel w2 w3 w1.heap.size w.heap.size g n (c + 1) X := ⟨B', _, hown, HRE.out.step hlt2 hcp hp h0, hB', HFU.out.ch hc3 (by omega), HCH.out.trans hc3⟩
        have HN := Lib.hid hnext
        clear hnext hown hB' hc3 h0
        go_wp2
        go_roundw
        case rel => exact ⟨c + 1, by omega, by go_num, HN⟩
        case measure => simp [intOf]; omega
    · have HE := Lib.hid (show c = n by omega)
      rw [HE.out] at hreach
      have HO := Lib.hid hown
      have HRE := Lib.hid hreach
      have HCH := Lib.hid hch
      clear hown hreach hB hfull hch
      go_wp2_with fail
      rw [mul2]
      refine (columns_any g n (2 * n) n (2 * n) B W wr HO.out n2 (by omega) (by omega) (Nat.le_refl _) (by omega)).mono ?_
      rintro e w3 ⟨g2, B2, rfl, hown, _, _, hc3⟩
      have hM := hown.mat (by omega) (by omega)
      rw [two_sub] at hM
      have HM := Lib.hid hM
      have HC3 := Lib.hid hc3
      clear hown hM hc3
      go_wp2
      go_ret2
      refine Or.inl ⟨W, HRE.out, _, rfl, HM.out, ?_⟩
      exact (((HCW.out.mono fun _ _ f => f.elim).trans HCH.out).trans (HC3.out.mono fun _ _ f => f.elim)).mono fun i hi hS => by have := HC1.out.size; omega
end Go.Proofs.YtlbdopcchoklhaaGreat
namespace Go.Proofs.YtlbdopcchoklhaaGreat
open Go.RowKit
set_option linter.unusedVariables false
set_option maxRecDepth 100000

/-! ### the document's One -/
theorem one_news (w : World) (x : Value) (t : TypeId) : ∀ j u, [x][j]? = some u → (w.alloc (.cells #[x] t)).cell? ((⟨w.heap.size, 0, none⟩ : Addr).add j) = some u :=
  World.news_of_block (cs := #[x]) (t := t) (fr := (0, 0)) (heap_alloc_new w _)
end Go.Proofs.YtlbdopcchoklhaaGreat
namespace Go.Proofs.YtlbdopcchoklhaaGreat
open Go.RowKit
set_option linter.unusedVariables false
set_option maxRecDepth 100000

/-- What the law of append asks of one element more. -/
structure App (e : TypeId) (base : Nat) (W : World) (v x : Value) (k : Nat) (xs : List Value) : Prop where
  o : (W.alloc (.cells #[x] e)).ownsRow base e 1 v k xs
  n : ∀ j u, [x][j]? = some u → (W.alloc (.cells #[x] e)).cell? ((⟨W.heap.size, 0, none⟩ : Addr).add j) = some u
  c : ∀ u ∈ [x], u.oneCell' = true
  b : base ≤ (W.alloc (.cells #[x] e)).heap.size
  s : (W.alloc (.cells #[x] e)).heap.size = W.heap.size + 1
  m : k + 1 ≤ maxLen
theorem app_mk {e : TypeId} {base : Nat} {W : World} {v x : Value} {k : Nat} {xs : List Value} (h : W.ownsRow base e 1 v k xs) (hb : base ≤ W.heap.size) (hx : x.oneCell' = true) (hk : k ≤ 65536) : App e base W v x k xs :=
  ⟨h.alloc _, one_news W x e, fun u hu => by rw [List.mem_singleton] at hu; rw [hu]; exact hx, by simp; omega, by simp, by unfold maxLen; omega⟩
end Go.Proofs.YtlbdopcchoklhaaGreat
namespace Go.Proofs.YtlbdopcchoklhaaGreat
open Go.RowKit
set_option linter.unusedVariables false
set_option maxRecDepth 100000

end Go.Proofs.YtlbdopcchoklhaaGreat
namespace Go.Proofs.YtlbdopcchoklhaaGreat
set_option linter.unusedVariables false
set_option maxRecDepth 100000

def skip (i r : Nat) : Nat := if r < i then r else r + 1
def minZ (i : Nat) (M : Nat → Nat → Nat) (r c : Nat) : Nat := M (skip i r) (c + 1)
def detZ : Nat → (Nat → Nat → Nat) → Nat
  | 0, _ => 1
  | n + 1, M => xsum (n + 1) (fun i => Gf.mul (M i 0) (detZ n (minZ i M)))
def setR (M : Nat → Nat → Nat) (r : Nat) (x : Nat → Nat) (q c : Nat) : Nat := if q = r then x c else M q c
def uns (i r : Nat) : Nat := if r < i then r else r - 1
theorem mul_lc {a b c : Nat} (ha : a < 256) (hb : b < 256) (hc : c < 256) : Gf.mul a (Gf.mul b c) = Gf.mul b (Gf.mul a c) := by rw [← Gf.mul_assoc ha hb hc, Gf.mul_comm a b, Gf.mul_assoc hb ha hc]
/-- Row r, and s times row q. -/
def addR (r q s : Nat) (M : Nat → Nat → Nat) : Nat → Nat → Nat := setR M r (fun c => xr (M r c) (Gf.mul (M q c) s))
/-- Rows ahead of i, but c, less their multiple of row c. -/
def lessTo (i c : Nat) (t : Nat → Nat) (Z : Nat → Nat → Nat) (r k : Nat) : Nat := if r = c ∨ ¬ r < i then Z r k else xr (Z r k) (Gf.mul (Z c k) (t r))
end Go.Proofs.YtlbdopcchoklhaaGreat
