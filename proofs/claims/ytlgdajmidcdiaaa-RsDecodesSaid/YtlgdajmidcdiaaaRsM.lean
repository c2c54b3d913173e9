/-
  Shares, in plain numbers: which ones are left; the data of which they are made is the only one. No program is named here.
-/
import Derived.Test.YtlgdajmidcdiaaaApp
namespace Go.Proofs.Ytlgdajmidcdiaaa
set_option linter.unusedVariables false

/-! ### which are left -/
def idx (L : Nat → Nat) : Nat → List Nat
  | 0 => []
  | n + 1 => if 0 < L n then idx L n ++ [n] else idx L n
theorem idx_yes {L : Nat → Nat} {n : Nat} (h : 0 < L n) : idx L (n + 1) = idx L n ++ [n] := if_pos h
theorem idx_no {L : Nat → Nat} {n : Nat} (h : ¬ 0 < L n) : idx L (n + 1) = idx L n := if_neg h
theorem idx_mem {L : Nat → Nat} {n i : Nat} : i ∈ idx L n ↔ i < n ∧ 0 < L i := by
  induction n with
  | zero => simp [idx]
  | succ n ih =>
    by_cases h : 0 < L n
    · rw [idx_yes h, List.mem_append, ih, List.mem_singleton]
      constructor
      · rintro (q | rfl)
        · exact ⟨by omega, q.2⟩
        · exact ⟨by omega, h⟩
      · rintro ⟨q, q2⟩
        by_cases e : i = n
        · exact Or.inr e
        · exact Or.inl ⟨by omega, q2⟩
    · rw [idx_no h, ih]
      constructor
      · rintro ⟨q, q2⟩; exact ⟨by omega, q2⟩
      · rintro ⟨q, q2⟩
        by_cases e : i = n
        · rw [e] at q2; exact absurd q2 h
        · exact ⟨by omega, q2⟩
theorem idx_nodup (L : Nat → Nat) (n : Nat) : (idx L n).Nodup := by
  induction n with
  | zero => simp [idx]
  | succ n ih =>
    by_cases h : 0 < L n
    · rw [idx_yes h]
      refine List.nodup_append.2 ⟨ih, by simp, fun a ha b hb e => ?_⟩
      rw [List.mem_singleton] at hb
      have := (idx_mem.1 ha).1
      omega
    · rw [idx_no h]; exact ih
theorem idx_len (L : Nat → Nat) (n : Nat) : (idx L n).length ≤ n := by
  induction n with
  | zero => simp [idx]
  | succ n ih =>
    by_cases h : 0 < L n
    · rw [idx_yes h, List.length_append]; simp; omega
    · rw [idx_no h]; omega
theorem idx_mono (L : Nat → Nat) {n m : Nat} (h : n ≤ m) : (idx L n).length ≤ (idx L m).length := by
  induction m with
  | zero => have : n = 0 := by omega
            rw [this]; exact Nat.le_refl _
  | succ m ih =>
    by_cases e : n = m + 1
    · rw [e]; exact Nat.le_refl _
    · have := ih (by omega)
      by_cases q : 0 < L m
      · rw [idx_yes q, List.length_append]; omega
      · rw [idx_no q]; exact this
/-- The place of the r-th that is left. -/
def wh (L : Nat → Nat) (n r : Nat) : Nat := (idx L n).getD r 0
theorem wh_mem {L : Nat → Nat} {n r : Nat} (h : r < (idx L n).length) : wh L n r ∈ idx L n := by
  unfold wh; rw [List.getD, List.getElem?_eq_getElem h]; exact List.getElem_mem _
theorem wh_lt {L : Nat → Nat} {n r : Nat} (h : r < (idx L n).length) : wh L n r < n := (idx_mem.1 (wh_mem h)).1
theorem wh_pos {L : Nat → Nat} {n r : Nat} (h : r < (idx L n).length) : 0 < L (wh L n r) := (idx_mem.1 (wh_mem h)).2
theorem wh_inj {L : Nat → Nat} {n r s : Nat} (h : r < (idx L n).length) (k : s < (idx L n).length) (e : wh L n r = wh L n s) : r = s := by
  unfold wh at e
  rw [List.getD, List.getD, List.getElem?_eq_getElem h, List.getElem?_eq_getElem k] at e
  have hp := List.pairwise_iff_getElem.1 (idx_nodup L n)
  rcases Nat.lt_trichotomy r s with q | q | q
  · exact absurd e (hp r s h k q)
  · exact q
  · exact absurd e.symm (hp s r k h q)
theorem wh_snoc {L : Nat → Nat} {n r : Nat} (h : r < (idx L n).length) : wh L (n + 1) r = wh L n r := by
  unfold wh
  by_cases q : 0 < L n
  · rw [idx_yes q, List.getD, List.getD, List.getElem?_append_left h]
  · rw [idx_no q]
theorem wh_up {L : Nat → Nat} {n m r : Nat} (h : r < (idx L n).length) (hm : n ≤ m) : wh L m r = wh L n r := by
  induction m with
  | zero => have : n = 0 := by omega
            rw [this]
  | succ m ih =>
    by_cases e : n = m + 1
    · rw [e]
    · rw [wh_snoc (Nat.lt_of_lt_of_le h (idx_mono L (by omega))), ih (by omega)]
/-- Those that are left are of one length, which may be. -/
def Fits (L : Nat → Nat) (n : Nat) : Prop := ∀ i, i < n → 0 < L i → L i ≤ 4096 ∧ ∀ j, j < n → 0 < L j → L i = L j
/-- How long they are. -/
def longZ (L : Nat → Nat) (n : Nat) : Nat := L (wh L n 0)
theorem Fits.long {L : Nat → Nat} {n i : Nat} (h : Fits L n) (hi : i < n) (h0 : 0 < L i) : L i = longZ L n := by
  have hp : 0 < (idx L n).length := List.length_pos_of_mem (idx_mem.2 ⟨hi, h0⟩)
  exact (h i hi h0).2 _ (wh_lt hp) (wh_pos hp)
theorem Fits.bounds {L : Nat → Nat} {n : Nat} (h : Fits L n) (hp : 0 < (idx L n).length) : 1 ≤ longZ L n ∧ longZ L n ≤ 4096 := ⟨wh_pos hp, (h _ (wh_lt hp) (wh_pos hp)).1⟩
theorem Fits.wh {L : Nat → Nat} {n r : Nat} (h : Fits L n) (hr : r < (idx L n).length) : L (wh L n r) = longZ L n := h.long (wh_lt hr) (wh_pos hr)

/-! ### the rows of those that are left, and the data -/
/-- The rows by which the first k that are left are made. -/
def rowsZ (L : Nat → Nat) (n k : Nat) (r c : Nat) : Nat := allZ k (wh L n r) c
theorem rowsZ_b (L : Nat → Nat) (n k : Nat) : AllB (rowsZ L n k) := fun r c => allZ_b k _ _
theorem rows_left {L : Nat → Nat} {n k : Nat} (hk : k ≤ (idx L n).length) (hn : n ≤ 64) (h1 : k ≤ n) : Sure k (rowsZ L n k) := fun x hx hz =>
  rows_sure (cols := k) (more := n - k) (fun r => wh L n r) (by omega) (fun r hr => by have := wh_lt (L := L) (n := n) (r := r) (by omega); omega) (fun r s hr hs e => wh_inj (by omega) (by omega) e) x hx hz
/-- D is data that has these shares. -/
def DataOf (L : Nat → Nat) (n k m : Nat) (X D : Nat → Nat → Nat) : Prop := AllB D ∧ ∀ r c, r < k → c < m → mulZ k (rowsZ L n k) D r c = X (wh L n r) c
theorem xr_cancel {a b : Nat} (h : a = b) : xr a b = 0 := by rw [h, xr_self]
/-- There is but one. -/
theorem DataOf.only {L : Nat → Nat} {n k m : Nat} {X D E : Nat → Nat → Nat} (hD : DataOf L n k m X D) (hE : DataOf L n k m X E) (hs : Sure k (rowsZ L n k)) : Eq2 k m D E := by
  intro r c hr hc
  refine xr_eq (hs (fun j => xr (D j c) (E j c)) (fun j => xr_lt8 (hD.1 _ _) (hE.1 _ _)) (fun q hq => ?_) r hr)
  have e1 := hD.2 q c hq hc
  have e2 := hE.2 q c hq hc
  have : xsum k (fun j => Gf.mul (rowsZ L n k q j) (xr (D j c) (E j c))) = xr (mulZ k (rowsZ L n k) D q c) (mulZ k (rowsZ L n k) E q c) := by
    unfold mulZ
    rw [← xsum_add]
    exact xsum_congr fun j _ => mul_xr (rowsZ_b _ _ _ _ _) (hD.1 _ _) (hE.1 _ _)
  rw [this, e1, e2, xr_self]
theorem data_inv {L : Nat → Nat} {n k m : Nat} {X V : Nat → Nat → Nat} (hX : AllB X) (h : Both k V (rowsZ L n k)) : DataOf L n k m X (mulZ k V (fun r c => X (wh L n r) c)) := by
  refine ⟨AllB.mul _ _ _, fun r c hr hc => ?_⟩
  rw [← mulZ_assoc (rowsZ_b L n k) h.1 (fun r c => hX _ _)]
  rw [show mulZ k (mulZ k (rowsZ L n k) V) (fun r c => X (wh L n r) c) r c = mulZ k oneZ (fun r c => X (wh L n r) c) r c from xsum_congr fun j hj => by rw [h.2.2 r j hr hj]]
  exact one_mulZ (fun r c => hX _ _) hr c
/-- All shares of data. -/
def sharesZ (k : Nat) (D : Nat → Nat → Nat) (r c : Nat) : Nat := mulZ k (allZ k) D r c
theorem shares_b (k : Nat) (D : Nat → Nat → Nat) : AllB (sharesZ k D) := AllB.mul _ _ _
theorem shares_data {k : Nat} {D : Nat → Nat → Nat} (hD : AllB D) {r : Nat} (hr : r < k) (c : Nat) : sharesZ k D r c = D r c := by
  unfold sharesZ
  rw [show mulZ k (allZ k) D r c = mulZ k oneZ D r c from xsum_congr fun j _ => by unfold allZ; rw [if_pos hr]]
  exact one_mulZ hD hr c
theorem shares_rest {k : Nat} {D : Nat → Nat → Nat} (r c : Nat) : sharesZ k D (k + r) c = mulZ k (cauZ k) D r c := by
  unfold sharesZ
  exact xsum_congr fun j _ => by unfold allZ; rw [if_neg (by omega), show k + r - k = r by omega]
theorem shares_join {k : Nat} {D : Nat → Nat → Nat} (hD : AllB D) (r c : Nat) : jz k D (mulZ k (cauZ k) D) r c = sharesZ k D r c := by
  unfold jz
  by_cases q : r < k
  · rw [if_pos q, shares_data hD q]
  · rw [if_neg q, ← shares_rest]
    rw [show k + (r - k) = r by omega]
theorem shares_congr {k m : Nat} {D E : Nat → Nat → Nat} (h : Eq2 k m D E) (r c : Nat) (hc : c < m) : sharesZ k D r c = sharesZ k E r c := xsum_congr fun j hj => by rw [h j c hj hc]
/-- Of shares that data made, that data is the one. -/
theorem data_back {L : Nat → Nat} {n k m : Nat} {X D : Nat → Nat → Nat} (hD : AllB D) (h : ∀ i c, i < n → 0 < L i → c < m → X i c = sharesZ k D i c) (hk : k ≤ (idx L n).length) : DataOf L n k m X D :=
  ⟨hD, fun r c hr hc => by rw [h _ c (wh_lt (by omega)) (wh_pos (by omega)) hc]; rfl⟩
/-! ### pieces and sums -/
theorem mulZ_sum {k : Nat} {R A B : Nat → Nat → Nat} (hR : AllB R) (hA : AllB A) (hB : AllB B) (r c : Nat) : mulZ k R (fun i j => xr (A i j) (B i j)) r c = xr (mulZ k R A r c) (mulZ k R B r c) := by
  unfold mulZ
  rw [← xsum_add]
  exact xsum_congr fun j _ => mul_xr (hR _ _) (hA _ _) (hB _ _)
theorem cauZ_b (k : Nat) : AllB (cauZ k) := fun r c => cauZ_lt _ _ _
#print axioms DataOf.only
end Go.Proofs.Ytlgdajmidcdiaaa
