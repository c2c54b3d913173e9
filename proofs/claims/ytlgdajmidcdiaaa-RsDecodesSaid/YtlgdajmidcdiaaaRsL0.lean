/-
  What the laws on Decode share: all shares in one list; shares of which some are nil.
-/
import Derived.Test.YtlgdajmidcdiaaaRsW
import Derived.Test.YtlgdajmidcdiaaaOpenA
namespace Go.Proofs.Ytlgdajmidcdiaaa
open Go.RowKit
set_option linter.unusedVariables false

/-- Rows that were built ahead, as a source for a list that was begun behind them. -/
theorem BldL.srcOld {base lo : Nat} {w w' : World} {u : Value} {k : Nat} {L : Nat → Nat} {Z : Nat → Nat → Nat} {g C : Nat} (h : BldL base lo w (.slice (some ⟨g, 0, none⟩) k C) k L Z) (hch : Ch (fun _ => False) w w') (hu : ∀ q, u.ownBlock = some q → w.heap.size ≤ q) : ∃ G, Src w' u 0 g 0 k G L Z := by
  obtain ⟨xs, h1, h2⟩ := h
  have hlen : xs.length = k := by have := h1.1; omega
  refine ⟨fun r => xs.getD r (.bool false), fun r hr => ?_⟩
  obtain ⟨x, hx, hrv, ho⟩ := h2 r hr
  have e : xs.getD r (.bool false) = x := by rw [List.getD, hx]; rfl
  show w'.cell? ⟨g, 0 + r, none⟩ = some (xs.getD r (.bool false)) ∧ (xs.getD r (.bool false)).oneCell' = true ∧ RowV w' (xs.getD r (.bool false)) (L r) (Z r) ∧ ∀ q, (xs.getD r (.bool false)).ownBlock = some q → q < w'.heap.size ∧ u.ownBlock ≠ some q ∧ Far 0 w' q
  rw [e]
  have hc := World.ownsRow.cells h1 (g := g) rfl r x hx
  rw [add_pl] at hc
  refine ⟨hch.cell hc (fun f => f), ?_, hrv.ch hch (fun _ _ f => f), fun q hq => ⟨Nat.lt_of_lt_of_le (ho q hq).1 hch.size, fun e2 => ?_, Far.zero _ _⟩⟩
  · obtain ⟨A, C, rfl, _⟩ := hrv; rfl
  · have := hu q e2
    have := (ho q hq).1
    omega
theorem bld_joinOld {base base2 lo2 : Nat} {w0 w : World} {v u : Value} {k m : Nat} {L M : Nat → Nat} {X Y : Nat → Nat → Nat} (h : BldL base 0 w v k L X) (h2 : BldL base2 lo2 w0 u m M Y) (hch : Ch (fun _ => False) w0 w) (hb : base ≤ w.heap.size) (hk : k + m ≤ 65536) (hs : ∀ q, v.ownBlock = some q → w0.heap.size ≤ q) :
    ∃ v' w', Joins v u base 0 w (k + m) (jn k L M) (jz k X Y) v' w' := by
  obtain ⟨ys, hy, hyr⟩ := id h2
  rcases hy.2 with ⟨rfl, h0⟩ | ⟨g, cap, cur, rfl, _⟩
  · subst h0
    exact bld_join h (BldL.nil w.heap.size w.heap.size w M Y) hb hk (fun q hq => (BldL.block h hq).2) (Nat.zero_le _)
  · obtain ⟨G, hG⟩ := h2.srcOld (u := v) hch hs
    exact src_join h hb hk hG
/-- append(append([][]byte(nil), data...), rest...) -/
def AllAt (w : World) (data rest : Value) (n m l : Nat) (X : Nat → Nat → Nat) (v1 : Value) (w1 : World) (v2 : Value) (w2 : World) : Prop :=
  (Builtin.append_ #[ /-t-/22, /-t-/22] /-t-/22 #[.slice none 0 0, data]).run Try.prog w = .ok v1 w1 ∧ (Builtin.append_ #[ /-t-/22, /-t-/22] /-t-/22 #[v1, rest]).run Try.prog w1 = .ok v2 w2 ∧ BldL w.heap.size 0 w2 v2 (n + m) (fun _ => l) (sharesZ n X) ∧ Ch (fun _ => False) w w2
theorem all_at {w : World} {b o C n m : Nat} {L : Nat → Nat} {X : Nat → Nat → Nat} {u : Value} {base2 : Nat} (hX : AllB X) (ha : MatV w (.slice (some ⟨b, o, none⟩) n C) n L X) (m1 : mayB n L = true) (hr : Bld base2 w u m (fun _ => L 0) (mulZ n (cauZ n) X)) (hm : m ≤ 64) :
    ∃ v1 w1 v2 w2, AllAt w (.slice (some ⟨b, o, none⟩) n C) u n m (L 0) X v1 w1 v2 w2 := by
  obtain ⟨n1, n2, l1, l2, hL⟩ := mayB_true m1
  obtain ⟨G, hG⟩ := mat_src ha (fun r hr => by rw [hL r hr]; omega)
  obtain ⟨v1, w1, j1, j2, j3⟩ := src_join (C := C) (BldL.nil w.heap.size 0 w (fun _ => L 0) X) (Nat.le_refl _) (by omega) hG
  have hc1 : Ch (fun _ => False) w w1 := (Ch.refl _ w).grown j3 (fun i hi => by cases hi)
  rw [Nat.zero_add] at j2
  have j2' : BldL w.heap.size 0 w1 v1 n (fun _ => L 0) X := (BldL.lens j2 (fun r hr => by unfold jn; rw [if_neg (Nat.not_lt_zero _)]; exact hL r hr)).congr fun r c _ _ => by unfold jz; rw [if_neg (Nat.not_lt_zero _)]; rfl
  obtain ⟨v2, w2, k1, k2, k3⟩ := bld_joinOld j2' hr hc1 hc1.size (by omega) (fun q hq => (BldL.block j2' hq).1)
  refine ⟨v1, w1, v2, w2, j1, k1, (BldL.lens k2 (fun r _ => jn_const n (L 0) r)).congr fun r c _ _ => shares_join hX r c, hc1.grown k3 (fun i hi => Or.inr (BldL.block j2' hi).1)⟩
/-- The lengths of shares of which some are lost. -/
def lostL (nb : Nat) (z : Nat → Bool) (l r : Nat) : Nat := if r < nb ∧ z r = true then 0 else l
theorem lost_yes {nb : Nat} {z : Nat → Bool} {l r : Nat} (h : r < nb ∧ z r = true) : lostL nb z l r = 0 := if_pos h
theorem lost_no {nb : Nat} {z : Nat → Bool} {l r : Nat} (h : ¬ (r < nb ∧ z r = true)) : lostL nb z l r = l := if_neg h
theorem lost_is {nb : Nat} {z : Nat → Bool} {l r : Nat} (h : 0 < lostL nb z l r) : lostL nb z l r = l := by
  unfold lostL at h ⊢
  split
  · rename_i q; rw [if_pos q] at h; exact absurd h (Nat.lt_irrefl 0)
  · rfl
theorem lost_fits {nb : Nat} {z : Nat → Bool} {l n : Nat} (hl : l ≤ 4096) : Fits (lostL nb z l) n := fun i hi h0 => ⟨by rw [lost_is h0]; exact hl, fun j hj q => by rw [lost_is h0, lost_is q]⟩
theorem lost_long {nb : Nat} {z : Nat → Bool} {l n : Nat} (h : 0 < (idx (lostL nb z l) n).length) : longZ (lostL nb z l) n = l := lost_is (wh_pos h)
/-- Decode of such shares is all of them again. -/
theorem lost_back {nb : Nat} {z : Nat → Bool} {l n k : Nat} {X D : Nat → Nat → Nat} (hX : AllB X) (k1 : 1 ≤ k) (k2 : k ≤ n) (n64 : n ≤ 64) (hk : k ≤ (idx (lostL nb z l) n).length) (hD : DataOf (lostL nb z l) n k l (sharesZ k X) D) (r c : Nat) (hc : c < l) : sharesZ k D r c = sharesZ k X r c :=
  shares_congr (hD.only (data_back hX (fun i c _ _ _ => rfl) hk) (rows_left hk n64 k2)) r c hc
theorem nil_row (w : World) (z : Nat → Nat) : RowV w (.slice none 0 0) 0 z := ⟨none, 0, rfl, by omega, fun h => absurd h (Nat.lt_irrefl 0)⟩
/-- The rows of all, to be handed on one by one. -/
theorem all_rows {base : Nat} {w : World} {v : Value} {k l : Nat} {Z : Nat → Nat → Nat} (h : BldL base 0 w v k (fun _ => l) Z) (k0 : 0 < k) : ∃ g C, v = .slice (some ⟨g, 0, none⟩) k C ∧ ∀ r, r < k → ∃ A D, w.cell? ⟨g, r, none⟩ = some (.slice A l D) ∧ RowV w (.slice A l D) l (Z r) ∧ ∀ q, (Value.slice A l D).ownBlock = some q → q < w.heap.size := by
  obtain ⟨xs, h1, h2⟩ := h
  rcases id h1.2 with ⟨rfl, h0⟩ | ⟨g, cap, cur, rfl, _⟩
  · omega
  · refine ⟨g, cap, rfl, fun r hr => ?_⟩
    obtain ⟨x, hx, hv, ho⟩ := h2 r hr
    have hc := World.ownsRow.cells h1 (g := g) rfl r x hx
    rw [add_pl, Nat.zero_add] at hc
    obtain ⟨A, D, rfl, _⟩ := id hv
    exact ⟨A, D, hc, hv, fun q hq => (ho q hq).1⟩
#print axioms all_at
end Go.Proofs.Ytlgdajmidcdiaaa
