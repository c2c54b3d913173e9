/-
  An install that may be cut off, over one that stands: what is left, in plain words.
-/
import Derived.Test.YtjdknebifcdicaaMg40
namespace Go.Proofs.Ytjdknebifcdicaa
open Go.RowKit
set_option linter.unusedVariables false
set_option maxRecDepth 100000

def isZ (d : Dev) (a : Nat) (z : Nat → Nat) : Prop := ∀ c, c < 256 → d.has a c = z c
/-- The first i have turned to y's, nothing waits. -/
structure Mid (x y : Sp) (i : Nat) (d : Dev) : Prop where
  n : d.n = 8
  W : d.W = []
  dead : d.dead = false
  drops : ∀ a, d.drops a = 0
  miss : ∀ a, d.miss a = []
  lost : ∀ a, a < 4 → d.lost a = false
  has : ∀ a, a < 4 → isZ d a (if a < i then sectS y (a : Int) else sectS x (a : Int))
/-- It died: each is x's or y's; at most one of y's waits. -/
structure Brk (x y : Sp) (d : Dev) : Prop where
  n : d.n = 8
  lost : ∀ a, a < 4 → d.lost a = false
  has : ∀ a, a < 4 → isZ d a (sectS x (a : Int)) ∨ isZ d a (sectS y (a : Int))
  W : d.W = [] ∨ ∃ a, a < 4 ∧ d.W = [⟨a, sectS y (a : Int)⟩]
section
variable {x y : Sp} {i : Nat} {d : Dev}
theorem Mid.brk (h : Mid x y i d) {d' : Dev} (hn : d'.n = d.n) (hl : d'.lost = d.lost) (hh : d'.has = d.has) (hW : d'.W = [] ∨ ∃ a, a < 4 ∧ d'.W = [⟨a, sectS y (a : Int)⟩]) : Brk x y d' :=
  ⟨hn.trans h.n, fun a ha => by rw [hl]; exact h.lost a ha, fun a ha => by
    have := h.has a ha
    unfold isZ at this ⊢
    rw [hh]
    by_cases q : a < i
    · rw [if_pos q] at this; exact Or.inr this
    · rw [if_neg q] at this; exact Or.inl this, hW⟩
theorem diesD_all (d : Dev) : (diesD d).n = d.n ∧ (diesD d).W = d.W ∧ (diesD d).drops = d.drops ∧ (diesD d).miss = d.miss ∧ (diesD d).has = d.has ∧ (diesD d).lost = d.lost := by
  unfold diesD
  split
  · split <;> exact ⟨rfl, rfl, rfl, rfl, rfl, rfl⟩
  · exact ⟨rfl, rfl, rfl, rfl, rfl, rfl⟩
theorem diesD_live {d : Dev} (h : diesB d = false) : (diesD d).dead = d.dead := by
  unfold diesB at h
  unfold diesD
  cases ha : d.armed
  · rfl
  · rw [ha, Bool.true_and] at h
    have := of_decide_eq_false h
    rw [if_pos rfl, if_pos (by omega)]
theorem try_mid (h : Mid x y i d) (hi : i < 4) : (tryE d (putS y i) = 21 ∧ Brk x y (tryD d (putS y i))) ∨ (tryE d (putS y i) = 0 ∧ Mid x y (i + 1) (tryD d (putS y i))) := by
  have hb : hasB d (i : Int) = true := decide_eq_true (by rw [h.n]; omega)
  have ho : openE d (i : Int) = 0 := by unfold openE; rw [h.dead, hb]; rfl
  obtain ⟨p1, p2, p3, p4, p5, p6⟩ := diesD_all d
  cases hd : diesB d
  case true =>
    have e1 : writeE d (i : Int) 256 = 21 := by unfold writeE; rw [ho, hd]; rfl
    have eW : writeD d (i : Int) 256 (sectS y (i : Int)) = diesD d := by unfold writeD; rw [if_pos ⟨ho, rfl⟩, hd]; rfl
    left
    constructor
    · show (if writeE d (i : Int) 256 = 0 then _ else writeE d (i : Int) 256) = 21
      rw [e1]; rfl
    · show Brk x y (if writeE d (i : Int) 256 = 0 then _ else writeD d (i : Int) 256 (sectS y (i : Int)))
      rw [e1, if_neg (by decide), eW]
      exact h.brk p1 p6 p5 (Or.inl (by rw [p2]; exact h.W))
  case false =>
    have hl := diesD_live hd
    have e1 : writeE d (i : Int) 256 = 0 := by unfold writeE; rw [ho, hd]; rfl
    obtain ⟨d', hd'⟩ : ∃ d', d' = writeD d (i : Int) 256 (sectS y (i : Int)) := ⟨_, rfl⟩
    have eW : d' = { diesD d with ops := d.ops + 1, W := [⟨i, sectS y (i : Int)⟩] } := by
      rw [hd']
      unfold writeD
      rw [if_pos ⟨ho, rfl⟩, hd, Int.toNat_natCast]
      have a1 : (wr1 d).drops i = 0 := by show (diesD d).drops i = 0; rw [p3]; exact h.drops i
      have a2 : (wr1 d).miss i = [] := by show (diesD d).miss i = []; rw [p4]; exact h.miss i
      have a3 : aimC (wr1 d) i = true := decide_eq_true (by omega)
      have a4 : aimD (wr1 d) i = wr1 d := by unfold aimD; rw [if_neg (by omega), a2]
      have a5 : aimT (wr1 d) i = i := by unfold aimT; rw [if_neg (by omega), a2]
      rw [a3, a4, a5, h.W]
      rfl
    have b1 : d'.n = 8 := by rw [eW]; exact p1.trans h.n
    have b2 : d'.dead = false := by rw [eW]; exact hl.trans h.dead
    have b3 : d'.has = d.has := by rw [eW]; exact p5
    have b4 : d'.lost = d.lost := by rw [eW]; exact p6
    have b5 : d'.W = [⟨i, sectS y (i : Int)⟩] := by rw [eW]
    have b6 : d'.drops = d.drops := by rw [eW]; exact p3
    have b7 : d'.miss = d.miss := by rw [eW]; exact p4
    obtain ⟨r1, r2, r3, r4, r5, r6⟩ := diesD_all d'
    have tE : tryE d (putS y i) = (if flushE d' = 0 then (if readE (flushD d') (i : Int) = 0 ∨ readE (flushD d') (i : Int) = 20 then (if asP (flushD d') (putS y i) then 0 else -1) else readE (flushD d') (i : Int)) else flushE d') := by
      subst hd'
      exact if_pos e1
    have tD : tryD d (putS y i) = (if flushE d' = 0 then readD (flushD d') (i : Int) else flushD d') := by
      subst hd'
      exact if_pos e1
    rw [tE, tD]
    cases hf : diesB d'
    case true =>
      have f1 : flushE d' = 21 := by unfold flushE; rw [b2, hf]; rfl
      have f2 : flushD d' = diesD d' := by unfold flushD; rw [b2, hf]; rfl
      left
      rw [f1, if_neg (by decide), if_neg (by decide), f2]
      exact ⟨rfl, h.brk (r1.trans (b1.trans h.n.symm)) (r6.trans b4) (r5.trans b3) (Or.inr ⟨i, hi, r2.trans b5⟩)⟩
    case false =>
      have f1 : flushE d' = 0 := by unfold flushE; rw [b2, hf]; rfl
      obtain ⟨d2, hd2⟩ : ∃ d2, d2 = flushD d' := ⟨_, rfl⟩
      have f2 : d2 = { diesD d' with has := up d.has i (sectS y (i : Int)), lost := up d.lost i false, W := [] } := by
        rw [hd2]
        unfold flushD
        rw [b2, hf, b5]
        show ({ finD (diesD d') ⟨i, sectS y (i : Int)⟩ with W := [] } : Dev) = _
        unfold finD
        rw [r5, r6, b3, b4]
      have c1 : Qt 8 { d2 with armed := false } := ⟨by rw [f2]; exact r1.trans b1, by rw [f2]; exact (diesD_live hf).trans b2, rfl, by rw [f2]⟩
      obtain ⟨k1, k2, k3⟩ := c1.read (k := i) (by omega)
      have g1 : readE d2 (i : Int) = 0 := by
        have : readE d2 (i : Int) = readE { d2 with armed := false } (i : Int) := rfl
        rw [this, k1]
        have : ({ d2 with armed := false } : Dev).lost i = false := by rw [f2]; show up d.lost i false i = false; exact up_same _ _ _
        rw [this]; rfl
      have g3 : readZ d2 (i : Int) = sectS y (i : Int) := by
        have : readZ d2 (i : Int) = readZ { d2 with armed := false } (i : Int) := rfl
        rw [this, k3, f2]
        show up d.has i (sectS y (i : Int)) i = _
        exact up_same _ _ _
      have g2 : readD d2 (i : Int) = { d2 with ops := d2.ops + 1 } := by
        have e : openE d2 (i : Int) = 0 := by
          have : readE d2 (i : Int) = 0 := g1
          by_cases q : openE d2 (i : Int) = 0
          · exact q
          · rw [(openE_ne q).1] at this; exact this
        unfold readD; rw [if_pos e]
      have g4 : asP d2 (putS y i) = true := by
        show (decide (readE d2 (i : Int) = 0) && eqB (readL d2 (i : Int)) 256 (readZ d2 (i : Int)) (sectS y (i : Int))) = true
        rw [decide_eq_true g1, Bool.true_and, g3]
        exact eqB_yes (by unfold readL; rw [if_pos g1]) (fun _ _ => rfl)
      right
      rw [f1, if_pos rfl, if_pos rfl, ← hd2, g1, if_pos (Or.inl rfl), g4, if_pos rfl, g2]
      refine ⟨rfl, ?_, ?_, ?_, ?_, ?_, ?_, ?_⟩
      · rw [f2]; exact r1.trans b1
      · rw [f2]
      · rw [f2]; exact (diesD_live hf).trans b2
      · intro a; rw [f2]; show (diesD d').drops a = 0; rw [r3, b6]; exact h.drops a
      · intro a; rw [f2]; show (diesD d').miss a = []; rw [r4, b7]; exact h.miss a
      · intro a ha; rw [f2]; show up d.lost i false a = false
        by_cases q : a = i
        · subst q; exact up_same _ _ _
        · rw [up_other _ _ q]; exact h.lost a ha
      · intro a ha c hc
        rw [f2]
        show up d.has i (sectS y (i : Int)) a c = _
        by_cases q : a = i
        · subst q; rw [up_same, if_pos (by omega)]
        · rw [up_other _ _ q]
          have := h.has a ha c hc
          rw [this]
          by_cases q2 : a < i
          · rw [if_pos q2, if_pos (by omega)]
          · rw [if_neg q2, if_neg (by omega)]
theorem all_mid (h : Mid x y 0 d) : ∀ i, i ≤ 4 → ((allTo (putS y) d i).e = 0 ∧ Mid x y i (allTo (putS y) d i).d) ∨ ((allTo (putS y) d i).e = 21 ∧ Brk x y (allTo (putS y) d i).d)
  | 0, _ => Or.inl ⟨rfl, h⟩
  | i + 1, hi => by
    rcases all_mid h i (by omega) with ⟨e1, e2⟩ | ⟨e1, e2⟩
    · have e : allTo (putS y) d (i + 1) = ⟨kepD 4 (allTo (putS y) d i).d (putS y i), kepE 4 (allTo (putS y) d i).d (putS y i)⟩ := by
        show (if (allTo (putS y) d i).e = 0 then _ else _) = _
        rw [if_pos e1]
      have kE : ∀ d', kepE 4 d' (putS y i) = (if tryE d' (putS y i) = -1 then kepE 3 (tryD d' (putS y i)) (putS y i) else tryE d' (putS y i)) := fun _ => rfl
      have kD : ∀ d', kepD 4 d' (putS y i) = (if tryE d' (putS y i) = -1 then kepD 3 (tryD d' (putS y i)) (putS y i) else tryD d' (putS y i)) := fun _ => rfl
      rw [e, kE, kD]
      rcases try_mid e2 (by omega) with ⟨t1, t2⟩ | ⟨t1, t2⟩
      · rw [t1, if_neg (by decide), if_neg (by decide)]
        exact Or.inr ⟨rfl, t2⟩
      · rw [t1, if_neg (by decide), if_neg (by decide)]
        exact Or.inl ⟨rfl, t2⟩
    · have e : allTo (putS y) d (i + 1) = allTo (putS y) d i := by
        show (if (allTo (putS y) d i).e = 0 then _ else _) = _
        rw [if_neg (by rw [e1]; decide)]
      rw [e]
      exact Or.inr ⟨e1, e2⟩
theorem Mid.crash (h : Mid x y i d) (m : Nat) (q : Nat → Bool) : Qt 8 (crashD d m q) ∧ (∀ a, a < 4 → (crashD d m q).lost a = false) ∧ ∀ a, a < 4 → isZ (crashD d m q) a (if a < i then sectS y (a : Int) else sectS x (a : Int)) := by
  have e : crashD d m q = { d with W := [], dead := false, armed := false } := by unfold crashD; rw [h.W]; rfl
  rw [e]
  exact ⟨⟨h.n, rfl, rfl, rfl⟩, h.lost, h.has⟩
theorem Brk.crash (h : Brk x y d) (m : Nat) (q : Nat → Bool) : Qt 8 (crashD d m q) ∧ (∀ a, a < 4 → (crashD d m q).lost a = false) ∧ ∀ a, a < 4 → isZ (crashD d m q) a (sectS x (a : Int)) ∨ isZ (crashD d m q) a (sectS y (a : Int)) := by
  rcases h.W with hW | ⟨b, hb, hW⟩
  · have e : crashD d m q = { d with W := [], dead := false, armed := false } := by unfold crashD; rw [hW]; rfl
    rw [e]
    exact ⟨⟨h.n, rfl, rfl, rfl⟩, h.lost, h.has⟩
  · have e : crashD d m q = { (if keepB m q 0 then finD d ⟨b, sectS y (b : Int)⟩ else d) with W := [], dead := false, armed := false } := by
      unfold crashD
      rw [hW]
      show ({ crTo d m q 1 with W := [], dead := false, armed := false } : Dev) = _
      unfold crTo
      rw [hW]
      rfl
    rw [e]
    cases keepB m q 0
    · exact ⟨⟨h.n, rfl, rfl, rfl⟩, h.lost, h.has⟩
    · refine ⟨⟨h.n, rfl, rfl, rfl⟩, fun a ha => ?_, fun a ha => ?_⟩
      · show up d.lost b false a = false
        by_cases w : a = b
        · subst w; exact up_same _ _ _
        · rw [up_other _ _ w]; exact h.lost a ha
      · by_cases w : a = b
        · subst w
          right
          intro c hc
          show up d.has a (sectS y (a : Int)) a c = _
          rw [up_same]
        · rcases h.has a ha with k | k
          · left; intro c hc; show up d.has b _ a c = _; rw [up_other _ _ w]; exact k c hc
          · right; intro c hc; show up d.has b _ a c = _; rw [up_other _ _ w]; exact k c hc
/-! ### all of it -/
def eiA (x : Sp) (die : Int) : Dev := armD (instD x (dev0 8)) die
def eiI (x y : Sp) (die : Int) : Dev := instD y (eiA x die)
def eiC (x y : Sp) (die : Int) (m : Nat) (q : Nat → Bool) : Dev := crashD (eiI x y die) m q
theorem ei_mid (hx : mayS x = true) (die : Int) : Mid x y 0 (eiA x die) := by
  obtain ⟨_, f, hz⟩ := inst_fine (N := 8) (by decide) hx (fine0 8)
  exact ⟨f.qt.n, f.qt.W, f.qt.dead, f.drops, f.miss, fun a ha => (hz a ha).1, fun a ha c hc => by rw [if_neg (Nat.not_lt_zero a)]; exact (hz a ha).2 c hc⟩
/-- What is told behind it. -/
theorem ei_all (hx : mayS x = true) (hy : mayS y = true) (die : Int) (m : Nat) (q : Nat → Bool) : Qt 8 (eiC x y die m q) ∧ (instE y (eiA x die) = 0 ∨ instE y (eiA x die) = 21) ∧
    ∀ O : Nat → Option Sp, (∀ c, c < 4 → TellS (supN (eiC x y die m q) c) (supZ (eiC x y die m q) c) (c : Int) (O c)) → (instE y (eiA x die) = 0 → pickF O 4 = some y) ∧ (pickF O 4 = some x ∨ pickF O 4 = some y) := by
  have hE : instE y (eiA x die) = (allTo (putS y) (eiA x die) 4).e := by unfold instE; rw [if_pos hy]
  have hD : eiI x y die = (allTo (putS y) (eiA x die) 4).d := by unfold eiI instD; rw [if_pos hy]
  have fin : ∀ O : Nat → Option Sp, (∀ c, c < 4 → O c = some x ∨ O c = some y) → pickF O 4 = some x ∨ pickF O 4 = some y := fun O h => by
    have : ∃ z, O 0 = some z := by rcases h 0 (by decide) with k | k; exact ⟨x, k⟩; exact ⟨y, k⟩
    obtain ⟨z, hz⟩ := this
    obtain ⟨v, hv, _⟩ := pickF_le O 4 z 0 hz (by decide)
    obtain ⟨j, hj, e⟩ := pickF_mem O 4 v hv
    rw [hv, ← e]
    exact h j hj
  rcases all_mid (ei_mid (y := y) hx die) 4 (Nat.le_refl 4) with ⟨e1, e2⟩ | ⟨e1, e2⟩
  · rw [← hD] at e2
    obtain ⟨c1, c2, c3⟩ := e2.crash m q
    refine ⟨c1, Or.inl (hE.trans e1), fun O hO => ?_⟩
    have hall : ∀ c, c < 4 → O c = some y := fun c hc => told_has c1 (by decide) hc hy ⟨c2 c hc, by have := c3 c hc; rw [if_pos hc] at this; exact this⟩ (hO c hc)
    have := pick_all (O := O) (x := y) (fun c hc => Or.inr (hall c hc)) ⟨0, by decide, hall 0 (by decide)⟩
    exact ⟨fun _ => this, Or.inr this⟩
  · rw [← hD] at e2
    obtain ⟨c1, c2, c3⟩ := e2.crash m q
    refine ⟨c1, Or.inr (hE.trans e1), fun O hO => ⟨fun h => ?_, fin O fun c hc => ?_⟩⟩
    · rw [hE, e1] at h; cases h
    · rcases c3 c hc with k | k
      · exact Or.inl (told_has c1 (by decide) hc hx ⟨c2 c hc, k⟩ (hO c hc))
      · exact Or.inr (told_has c1 (by decide) hc hy ⟨c2 c hc, k⟩ (hO c hc))
theorem ei_lims {die : Int} {m : Nat} {q : Nat → Bool} : (Lim (eiA x die) 52 ∧ LimM (eiA x die) 52) ∧ (Lim (eiI x y die) 104 ∧ LimM (eiI x y die) 104) ∧ Lim (eiC x y die m q) 105 := by
  have l0 := inst_lim (x := x) (limz 8 0).1 (limz 8 0).2
  have l1 : Lim (eiA x die) 52 ∧ LimM (eiA x die) 52 := ⟨⟨l0.1.ops, l0.1.W, l0.1.drops⟩, l0.2⟩
  have l2 := inst_lim (x := y) l1.1 l1.2
  exact ⟨l1, l2, (near_crash (eiI x y die) m q).lim l2.1 l2.2 |>.1⟩
end
#print axioms ei_all
#print axioms ei_lims
end Go.Proofs.Ytjdknebifcdicaa
