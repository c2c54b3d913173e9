/-
  mat.Inv, walked: what it answers is what the elimination leaves.
-/
import Derived.Test.YtlgdajmidcdiaaaClear
import Derived.Test.YtlgdajmidcdiaaaLin
namespace Go.Proofs.Ytlgdajmidcdiaaa
open Go.RowKit
set_option linter.unusedVariables false

/-- What stands when c columns of X beside One are cleared, whatever the pivots. -/
def Reach (n : Nat) (X : Nat → Nat → Nat) : Nat → (Nat → Nat → Nat) → Prop
  | 0, W => W = besZ n X
  | c + 1, W => ∃ p V, Reach n X c V ∧ c < n ∧ c ≤ p ∧ p < n ∧ 0 < V p c ∧ W = stepZ c p V
theorem Reach.start {n : Nat} {X : Nat → Nat → Nat} : Reach n X 0 (besZ n X) := rfl
theorem Reach.step {n : Nat} {X : Nat → Nat → Nat} {c p : Nat} {W : Nat → Nat → Nat} (h : Reach n X c W) (hc : c < n) (hcp : c ≤ p) (hp : p < n) (h0 : 0 < W p c) : Reach n X (c + 1) (stepZ c p W) := ⟨p, W, h, hc, hcp, hp, h0, rfl⟩
theorem Reach.turned {n : Nat} {X : Nat → Nat → Nat} (hX : AllB X) : ∀ {c : Nat} {W : Nat → Nat → Nat}, Reach n X c W → (∃ D, Turned n X W D) ∧ Cleared n c W
  | 0, W, h => by
    have e : W = besZ n X := h
    subst e
    exact ⟨⟨_, Turned.start hX⟩, fun r k _ hk => absurd hk (Nat.not_lt_zero k)⟩
  | c + 1, W, h => by
    obtain ⟨p, V, hV, hc, hcp, hp, h0, rfl⟩ := h
    obtain ⟨⟨D, ht⟩, hcl⟩ := Reach.turned hX hV
    exact ⟨ht.step hX hc hp h0, hcl.step ht.b hc hcp hp h0⟩
def InvPost (n : Nat) (X : Nat → Nat → Nat) (w : World) (e : Ending) (w' : World) : Prop :=
  (∃ W, Reach n X n W ∧ MatPost n n (left n W) w e w') ∨ (∃ c W, c < n ∧ Reach n X c W ∧ (∀ r, c ≤ r → r < n → W r c = 0) ∧ ErrPost 5 w e w')
def InvRel (w wr : World) (s gf g n c : Nat) (X : Nat → Nat → Nat) : Prop :=
  ∃ B W, Own wr g n (2 * n) B W ∧ Reach n X c W ∧ (∀ r, r < n → s ≤ B r) ∧ fullAt wr gf ∧ Ch (fun j => s ≤ j) w wr
theorem two_sub (n : Nat) : 2 * n - n = n := by omega
set_option maxHeartbeats 1600000 in
theorem inv_yes (va : Value) (n : Nat) (L : Nat → Nat) (X : Nat → Nat → Nat) (w : World) (ha : MatV w va n L X) (m1 : mayB n L = true) (hk : L 0 = n) :
    Calls Try.prog 45 #[va] w (InvPost n X w) := by
  obtain ⟨n1, n2, l1, l2, hL⟩ := mayB_true m1
  obtain ⟨ba, oa, Ca, rfl, _, hra⟩ := ha.some (by omega)
  obtain ⟨A0, D0, ca0, _, _⟩ := hra 0 (by omega)
  rw [Nat.add_zero, hk] at ca0
  have HA := Lib.hid ha
  have HAn := Lib.hid (ha.lens (M := fun _ => n) (fun r hr => by rw [hL r hr, hk]))
  have b1 : ((n : Int) != (n : Int)) = false := by simp
  have npos : 0 < n := by omega
  clear hra ha hL hk
  go_enter Try.func45, Try.ntmps45
  go_wp2_with fail
  refine (may_any _ n L X _ HA.out).mono ?_
  rintro e w1 ⟨rfl, rfl⟩
  go_wp2_with fail
  refine (new_any _).mono ?_
  rintro e w1 ⟨rfl, hfull, hg⟩
  have hlt := hfull.lt
  have hch1 : Ch (fun _ => False) w w1 := Gr.ch hg _
  have HC1 := Lib.hid hch1
  have HF := Lib.hid hfull
  have HA1 := Lib.hid (HAn.out.gr hch1)
  clear hfull hg hch1 ca0
  go_wp2_with fail
  refine (beside_any _ n X _ n1 n2 HA1.out).mono ?_
  rintro e w2 ⟨g, B, rfl, hown, hB, hg, hch2⟩
  have h0 : InvRel w2 w2 w1.heap.size w.heap.size g n 0 X := ⟨B, _, hown, Reach.start, hB, fullAt.ch HF.out hch2 (fun f => f), Ch.refl _ _⟩
  have HCW := Lib.hid (HC1.out.trans hch2)
  have H0 := Lib.hid h0
  clear hown hB hch2 h0
  go_wp2
  go_loopw [26, 7] (fun i _ wr => ∃ c : Nat, c ≤ n ∧ i = .int .i64 c ∧ Hid (InvRel w2 wr w1.heap.size w.heap.size g n c X)) (fun i _ _ => n - (intOf i).toNat)
  case atStart => exact ⟨0, Nat.zero_le _, rfl, H0⟩
  case round =>
    obtain ⟨c, hc, rfl, HI⟩ := hrel
    obtain ⟨B, W, hown, hreach, hB, hfull, hch⟩ := HI.out
    by_cases hlt2 : c < n
    · have HO := Lib.hid hown
      have HRE := Lib.hid hreach
      have HB := Lib.hid hB
      have HFU := Lib.hid hfull
      have HCH := Lib.hid hch
      clear hown hreach hB hfull hch
      go_wp2_with fail
      refine (clear_any w1.heap.size w.heap.size g n (2 * n) c B W wr HO.out HFU.out (by omega) hg HB.out n2 (by omega) hlt2 (by omega)).mono ?_
      rintro e w3 (⟨rfl, hz, hc3⟩ | ⟨p, B', rfl, hcp, hp, h0, hown, hB', hc3⟩)
      · have HZ := Lib.hid hz
        have HC3 := Lib.hid hc3
        clear hz hc3
        go_wp2
        go_ret2
        refine Or.inr ⟨c, W, hlt2, HRE.out, HZ.out, rfl, ?_⟩
        exact (((HCW.out.mono fun _ _ f => f.elim).trans HCH.out).trans (HC3.out.mono fun _ _ f => f.elim)).mono fun i hi hS => by have := HC1.out.size; omega
      · have hnext : InvRel w2 w3 w1.heap.size w.heap.size g n (c + 1) X := ⟨B', _, hown, HRE.out.step hlt2 hcp hp h0, hB', HFU.out.ch hc3 (by omega), HCH.out.trans hc3⟩
        have HN := Lib.hid hnext
        clear hnext hown hB' hc3 h0
        go_wp2
        go_roundw
        case rel => exact ⟨c + 1, by omega, by go_num, HN⟩
        case measure => simp [intOf]; omega
    · have HE := Lib.hid (show c = n by omega)
      rw [HE.out] at hreach
      have HO := Lib.hid hown
      have HRE := Lib.hid hreach
      have HCH := Lib.hid hch
      clear hown hreach hB hfull hch
      go_wp2_with fail
      rw [mul2]
      refine (columns_any g n (2 * n) n (2 * n) B W wr HO.out n2 (by omega) (by omega) (Nat.le_refl _) (by omega)).mono ?_
      rintro e w3 ⟨g2, B2, rfl, hown, _, _, hc3⟩
      have hM := hown.mat (by omega) (by omega)
      rw [two_sub] at hM
      have HM := Lib.hid hM
      have HC3 := Lib.hid hc3
      clear hown hM hc3
      go_wp2
      go_ret2
      refine Or.inl ⟨W, HRE.out, _, rfl, HM.out, ?_⟩
      exact (((HCW.out.mono fun _ _ f => f.elim).trans HCH.out).trans (HC3.out.mono fun _ _ f => f.elim)).mono fun i hi hS => by have := HC1.out.size; omega
set_option maxHeartbeats 800000 in
theorem inv_no (va : Value) (n : Nat) (L : Nat → Nat) (X : Nat → Nat → Nat) (w : World) (ha : MatV w va n L X) (h : ¬ (mayB n L = true ∧ L 0 = n)) :
    Calls Try.prog 45 #[va] w (ErrPost 1 w) := by
  have HA := Lib.hid ha
  cases m1 : mayB n L with
  | false =>
    obtain ⟨A, Ca, rfl, _, _⟩ := ha
    clear h
    go_enter Try.func45, Try.ntmps45
    go_wp2_with fail
    refine (may_any _ n L X _ HA.out).mono ?_
    rintro e w1 ⟨rfl, rfl⟩
    go_wp2
    go_ret2
    exact ⟨rfl, Ch.refl _ _⟩
  | true =>
    have hk : L 0 ≠ n := fun e => h ⟨m1, e⟩
    have hn := (mayB_true m1).1
    obtain ⟨b, o, C, rfl, _, hr⟩ := ha.some (by omega)
    obtain ⟨A0, D0, ca0, _, _⟩ := hr 0 (by omega)
    rw [Nat.add_zero] at ca0
    have b1 : ((L 0 : Int) != (n : Int)) = true := by simp; omega
    have npos : 0 < n := by omega
    clear hr hk h ha
    go_enter Try.func45, Try.ntmps45
    go_wp2_with fail
    refine (may_any _ n L X _ HA.out).mono ?_
    rintro e w1 ⟨rfl, rfl⟩
    go_wp2
    go_ret2
    exact ⟨rfl, Ch.refl _ _⟩
#print axioms inv_yes
#print axioms inv_no
end Go.Proofs.Ytlgdajmidcdiaaa
