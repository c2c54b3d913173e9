/-
  keep in plain words: how the tries of one write stand.
-/
import Derived.Test.YtjibfoplihaabaaMg20
namespace Go.Proofs.Ytjibfoplihaabaa
open Go.RowKit
set_option linter.unusedVariables false
set_option maxRecDepth 100000

theorem near_read (d : Dev) (a : Int) : Near d (readD d a) := by
  unfold readD
  split
  · exact ⟨rfl, Nat.le_refl _, Nat.le_succ _, fun a => Nat.le_add_right _ _, fun a => Nat.le_succ _⟩
  · exact Near.refl d
/-- How the tries stand: k of them are done, the device is e. -/
structure TryS (d : Dev) (P : PutP) (t k : Nat) (e : Dev) : Prop where
  E : kepE 4 d P = kepE (4 - k) e P
  D : kepD 4 d P = kepD (4 - k) e P
  lim : Lim e (t + 3 * k)
  limM : LimM e (t + 3 * k)
theorem TryS.lims {d e : Dev} {P : PutP} {t k : Nat} (h : TryS d P t k e) : (Lim (kwD e P) (t + 3 * k + 1) ∧ LimM (kwD e P) (t + 3 * k + 1)) ∧ (Lim (kfD e P) (t + 3 * k + 1 + 1) ∧ LimM (kfD e P) (t + 3 * k + 1 + 1)) ∧ (Lim (krD e P) (t + 3 * (k + 1)) ∧ LimM (krD e P) (t + 3 * (k + 1))) := by
  have h1 := (near_write e P.pl P.n P.z).lim h.lim h.limM
  have h2 := (near_flush (kwD e P)).lim h1.1 h1.2
  have h3 := (near_read (kfD e P) P.pl).lim h2.1 h2.2
  exact ⟨h1, h2, h3⟩
theorem TryS.step {d e : Dev} {P : PutP} {t k : Nat} (h : TryS d P t k e) (hk : k < 4) : kepE 4 d P = (if tryE e P = -1 then kepE (4 - (k + 1)) (tryD e P) P else tryE e P) ∧ kepD 4 d P = (if tryE e P = -1 then kepD (4 - (k + 1)) (tryD e P) P else tryD e P) := by
  rw [h.E, h.D, show 4 - k = (4 - (k + 1)) + 1 by omega]
  exact ⟨rfl, rfl⟩
theorem openE_three (d : Dev) (a : Int) : openE d a = 21 ∨ openE d a = 0 ∨ openE d a = 3 := by
  unfold openE
  split
  · exact Or.inl rfl
  · split
    · exact Or.inr (Or.inl rfl)
    · exact Or.inr (Or.inr rfl)
theorem readE_ne {d : Dev} {a : Int} : readE d a ≠ -1 := by
  unfold readE
  rcases openE_three d a with h | h | h <;> rw [h]
  · rw [if_neg (by decide)]; decide
  · rw [if_pos rfl]
    cases (lastW d.W a.toNat).isNone && d.lost a.toNat
    · rw [if_neg (by decide)]; decide
    · rw [if_pos rfl]; decide
  · rw [if_neg (by decide)]; decide
theorem writeE_ne {d : Dev} {a : Int} {n : Nat} : writeE d a n ≠ -1 := by
  unfold writeE
  rcases openE_three d a with h | h | h <;> rw [h]
  · rw [if_neg (by decide)]; decide
  · rw [if_pos rfl]
    by_cases q : n = 256
    · rw [if_pos q]
      cases diesB d
      · rw [if_neg (by decide)]; decide
      · rw [if_pos rfl]; decide
    · rw [if_neg q]; decide
  · rw [if_neg (by decide)]; decide
theorem flushE_ne {d : Dev} : flushE d ≠ -1 := by
  unfold flushE
  split <;> decide
section
variable {d e : Dev} {P : PutP} {t k : Nat}
theorem TryS.bad1 (h : TryS d P t k e) (hk : k < 4) (q : ¬ writeE e P.pl P.n = 0) : kepE 4 d P = writeE e P.pl P.n ∧ kepD 4 d P = kwD e P := by
  obtain ⟨h1, h2⟩ := h.step hk
  have e1 : tryE e P = writeE e P.pl P.n := if_neg q
  have e2 : tryD e P = kwD e P := if_neg q
  rw [h1, h2, e1, e2, if_neg writeE_ne, if_neg writeE_ne]
  exact ⟨rfl, rfl⟩
theorem TryS.bad2 (h : TryS d P t k e) (hk : k < 4) (q : writeE e P.pl P.n = 0) (q2 : ¬ flushE (kwD e P) = 0) : kepE 4 d P = flushE (kwD e P) ∧ kepD 4 d P = kfD e P := by
  obtain ⟨h1, h2⟩ := h.step hk
  have e1 : tryE e P = flushE (kwD e P) := by unfold tryE; rw [if_pos q, if_neg q2]
  have e2 : tryD e P = kfD e P := by unfold tryD; rw [if_pos q, if_neg q2]
  rw [h1, h2, e1, e2, if_neg flushE_ne, if_neg flushE_ne]
  exact ⟨rfl, rfl⟩
theorem TryS.bad3 (h : TryS d P t k e) (hk : k < 4) (q : writeE e P.pl P.n = 0) (q2 : flushE (kwD e P) = 0) (q3 : ¬ (readE (kfD e P) P.pl = 0 ∨ readE (kfD e P) P.pl = 20)) : kepE 4 d P = readE (kfD e P) P.pl ∧ kepD 4 d P = krD e P := by
  obtain ⟨h1, h2⟩ := h.step hk
  have e1 : tryE e P = readE (kfD e P) P.pl := by unfold tryE; rw [if_pos q, if_pos q2, if_neg q3]
  have e2 : tryD e P = krD e P := by unfold tryD; rw [if_pos q, if_pos q2]
  rw [h1, h2, e1, e2, if_neg readE_ne, if_neg readE_ne]
  exact ⟨rfl, rfl⟩
theorem TryS.good (h : TryS d P t k e) (hk : k < 4) (q : writeE e P.pl P.n = 0) (q2 : flushE (kwD e P) = 0) (q3 : readE (kfD e P) P.pl = 0) (q4 : eqB (readL (kfD e P) P.pl) P.n (readZ (kfD e P) P.pl) P.z = true) : kepE 4 d P = 0 ∧ kepD 4 d P = krD e P := by
  obtain ⟨h1, h2⟩ := h.step hk
  have e3 : asP (kfD e P) P = true := by unfold asP; rw [q3, q4]; rfl
  have e1 : tryE e P = 0 := by unfold tryE; rw [if_pos q, if_pos q2, if_pos (Or.inl q3), if_pos e3]
  have e2 : tryD e P = krD e P := by unfold tryD; rw [if_pos q, if_pos q2]
  rw [h1, h2, e1, e2, if_neg (by decide), if_neg (by decide)]
  exact ⟨rfl, rfl⟩
theorem TryS.on (h : TryS d P t k e) (hk : k < 4) (q : writeE e P.pl P.n = 0) (q2 : flushE (kwD e P) = 0) (q3 : readE (kfD e P) P.pl = 0 ∨ readE (kfD e P) P.pl = 20) (q4 : readE (kfD e P) P.pl = 0 → eqB (readL (kfD e P) P.pl) P.n (readZ (kfD e P) P.pl) P.z = false) : TryS d P t (k + 1) (krD e P) := by
  obtain ⟨h1, h2⟩ := h.step hk
  have e3 : asP (kfD e P) P = false := by
    unfold asP
    by_cases w : readE (kfD e P) P.pl = 0
    · rw [q4 w, Bool.and_false]
    · rw [decide_eq_false w, Bool.false_and]
  have e1 : tryE e P = -1 := by unfold tryE; rw [if_pos q, if_pos q2, if_pos q3, e3]; rfl
  have e2 : tryD e P = krD e P := by unfold tryD; rw [if_pos q, if_pos q2]
  rw [e1, e2, if_pos rfl] at h1
  rw [e1, e2, if_pos rfl] at h2
  exact ⟨h1, h2, h.lims.2.2.1, h.lims.2.2.2⟩
end
#print axioms TryS.on
/-! ### how much is done -/
theorem Lim.mono {d : Dev} {t t' : Nat} (h : Lim d t) (k : t ≤ t') : Lim d t' := ⟨Nat.le_trans h.ops k, Nat.le_trans h.W k, fun a => Nat.le_trans (h.drops a) (Nat.mul_le_mul_left _ k)⟩
theorem LimM.mono {d : Dev} {t t' : Nat} (h : LimM d t) (k : t ≤ t') : LimM d t' := fun a => Nat.le_trans (h a) k
theorem try_lim {d : Dev} {P : PutP} {t : Nat} (h : Lim d t) (hm : LimM d t) : Lim (tryD d P) (t + 3) ∧ LimM (tryD d P) (t + 3) := by
  have h1 := (near_write d P.pl P.n P.z).lim h hm
  have h2 := (near_flush (kwD d P)).lim h1.1 h1.2
  have h3 := (near_read (kfD d P) P.pl).lim h2.1 h2.2
  unfold tryD
  split
  · split
    · exact h3
    · exact ⟨h2.1.mono (by omega), h2.2.mono (by omega)⟩
  · exact ⟨h1.1.mono (by omega), h1.2.mono (by omega)⟩
theorem kep_lim {P : PutP} : ∀ (j : Nat) {d : Dev} {t : Nat}, Lim d t → LimM d t → Lim (kepD j d P) (t + 3 * j) ∧ LimM (kepD j d P) (t + 3 * j)
  | 0, _, _, h, hm => ⟨h, hm⟩
  | j + 1, d, t, h, hm => by
    have h1 := try_lim (P := P) h hm
    show Lim (if tryE d P = -1 then kepD j (tryD d P) P else tryD d P) _ ∧ LimM (if tryE d P = -1 then kepD j (tryD d P) P else tryD d P) _
    split
    · have h2 := kep_lim (P := P) j h1.1 h1.2
      exact ⟨h2.1.mono (by omega), h2.2.mono (by omega)⟩
    · exact ⟨h1.1.mono (by omega), h1.2.mono (by omega)⟩
theorem allTo_lim {f : Nat → PutP} {d : Dev} {t : Nat} (h : Lim d t) (hm : LimM d t) : ∀ k, Lim (allTo f d k).d (t + 13 * k) ∧ LimM (allTo f d k).d (t + 13 * k)
  | 0 => ⟨h, hm⟩
  | k + 1 => by
    have ih := allTo_lim (f := f) h hm k
    have h1 := kep_lim (P := f k) 4 ih.1 ih.2
    show Lim (if (allTo f d k).e = 0 then (⟨kepD 4 (allTo f d k).d (f k), kepE 4 (allTo f d k).d (f k)⟩ : AllS) else allTo f d k).d _ ∧ LimM (if (allTo f d k).e = 0 then (⟨kepD 4 (allTo f d k).d (f k), kepE 4 (allTo f d k).d (f k)⟩ : AllS) else allTo f d k).d _
    split
    · exact ⟨h1.1.mono (by omega), h1.2.mono (by omega)⟩
    · exact ⟨ih.1.mono (by omega), ih.2.mono (by omega)⟩
theorem mendTo_lim {f : Nat → PutP} {d : Dev} {t : Nat} (h : Lim d t) (hm : LimM d t) : ∀ k, Lim (mendTo f d k).d (t + 13 * k) ∧ LimM (mendTo f d k).d (t + 13 * k)
  | 0 => ⟨h, hm⟩
  | k + 1 => by
    have ih := mendTo_lim (f := f) h hm k
    have h0 := (near_read (mendTo f d k).d (f k).pl).lim ih.1 ih.2
    have h1 := kep_lim (P := f k) 4 h0.1 h0.2
    rw [mendTo_succ]
    split
    · split
      · split
        · exact ⟨h0.1.mono (by omega), h0.2.mono (by omega)⟩
        · exact ⟨h1.1.mono (by omega), h1.2.mono (by omega)⟩
      · exact ⟨h0.1.mono (by omega), h0.2.mono (by omega)⟩
    · exact ⟨ih.1.mono (by omega), ih.2.mono (by omega)⟩
theorem mendTo_c (f : Nat → PutP) (d : Dev) : ∀ k, (mendTo f d k).c ≤ k
  | 0 => Nat.le_refl _
  | k + 1 => by
    have ih := mendTo_c f d k
    rw [mendTo_succ]
    split
    · split
      · split
        · exact Nat.le_succ_of_le ih
        · show (if kepE 4 (readD (mendTo f d k).d (f k).pl) (f k) = 0 then (mendTo f d k).c + 1 else (mendTo f d k).c) ≤ k + 1
          split <;> omega
      · exact Nat.le_succ_of_le ih
    · exact Nat.le_succ_of_le ih
#print axioms mendTo_lim
end Go.Proofs.Ytjibfoplihaabaa
