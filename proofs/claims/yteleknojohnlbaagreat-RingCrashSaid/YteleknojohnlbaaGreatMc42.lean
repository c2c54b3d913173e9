/-
  law11's few and small: how long a row of rows, and each of them, may be. Where both sectors of a slot that is needed are damaged it is told so; nothing else is told (RingBoth, P11.2, P11.5). A device that may die: a try, a write of a piece, and what a crash leaves of them, in plain words. The life of a ring on a device that may die: its pieces, and what a crash leaves of them, in plain words.
-/
import Derived.Test.YteleknojohnlbaaGreatMc41
import Derived.Test.YteleknojohnlbaaGreatMc15
import Derived.Test.YteleknojohnlbaaGreatMc40
import Derived.Test.YteleknojohnlbaaGreatMc37
import Derived.Test.YteleknojohnlbaaGreatMc10
namespace Go.Proofs.YteleknojohnlbaaGreat
open Go.RowKit
set_option linter.unusedVariables false
set_option maxRecDepth 100000
set_option linter.unusedSimpArgs false
def fewTo (N : Nat → Nat) (t : Nat) : Nat → Bool
  | 0 => true
  | k + 1 => fewTo N t k && decide (N k ≤ t)
theorem fewTo_false {N : Nat → Nat} {t k n : Nat} (hk : k < n) (h : ¬ N k ≤ t) : fewTo N t n = false := by
  induction n with
  | zero => omega
  | succ n ih =>
    show (fewTo N t n && decide (N n ≤ t)) = false
    by_cases e : k = n
    · subst e; rw [decide_eq_false h, Bool.and_false]
    · rw [ih (by omega), Bool.false_and]
set_option maxHeartbeats 3200000 in
theorem small_any (A : Option Addr) (n C : Nat) (N : Nat → Nat) (w : World) (h : LsV w A n C N) : Calls Tryz.prog 24 #[.slice A n C] w fun e w' => e = .returned (.bool (if n ≤ 12 then fewTo N 1500 n else false)) ∧ w = w' := by
  have hle := h.le
  by_cases q : n ≤ 12
  · have HE := Lib.hid (show (if n ≤ 12 then fewTo N 1500 n else false) = fewTo N 1500 n from if_pos q)
    have t0 : ¬ (12 : Int) < (n : Int) := by omega
    have HV := Lib.hid h
    have HQ := Lib.hid q
    clear h q
    go_enter Tryz.func24, Tryz.ntmps24
    go_wp2
    go_loopw [2, 3] (fun r i wr => ∃ k : Nat, k ≤ n ∧ i = .int .i64 k ∧ wr = w ∧ Hid (fewTo N 1500 k = true)) (fun r i _ => n - (intOf i).toNat)
    case atStart => exact ⟨0, Nat.zero_le _, rfl, rfl, Lib.hid rfl⟩
    case round =>
      obtain ⟨k, hk, rfl, rfl, HT⟩ := hrel
      by_cases hlt : k < n
      · obtain ⟨b, o, rfl, hc⟩ := HV.out.at' (by omega)
        obtain ⟨A', C', h1, h2⟩ := hc k hlt
        have hNle := h2
        obtain ⟨Nk, hN⟩ : ∃ Nk, Nk = N k := ⟨_, rfl⟩
        rw [← hN] at h1 hNle
        have HNk := Lib.hid hN
        have i1 : (0 : Int) ≤ (k : Int) := Int.natCast_nonneg _
        have i2 : (k : Int) < (n : Int) := by omega
        have n3 : wrap64 ((k : Int) + 1) = ((k + 1 : Nat) : Int) := by rw [IntWalk.wrap64_in _ ⟨by omega, by omega⟩]; omega
        have HLT := Lib.hid hlt
        clear hc h2 hN
        by_cases r : Nk ≤ 1500
        · have t1 : ¬ (1500 : Int) < (Nk : Int) := by omega
          have HT2 := Lib.hid (show fewTo N 1500 (k + 1) = true by show (fewTo N 1500 k && decide (N k ≤ 1500)) = true; rw [HT.out, ← HNk.out, decide_eq_true r]; rfl)
          clear r
          go_wp2
          go_roundw
          case rel => exact ⟨k + 1, HLT.out, by simp, by trivial, HT2⟩
          case measure => show n - ((k : Int) + 1).toNat < n - (k : Int).toNat; have := HLT.out; omega
        · have t1 : (1500 : Int) < (Nk : Int) := by omega
          have HN := Lib.hid (show fewTo N 1500 n = false from fewTo_false HLT.out (by rw [← HNk.out]; exact r))
          clear r
          go_wp2
          go_ret
          exact ⟨ret_bool HN.out.symm, rfl⟩
      · have hkn : k = n := by omega
        subst hkn
        go_wp2
        go_ret
        exact ⟨ret_bool HT.out.symm, rfl⟩
  · have HE := Lib.hid (show (if n ≤ 12 then fewTo N 1500 n else false) = false from if_neg q)
    have t0 : (12 : Int) < (n : Int) := by omega
    clear h q
    go_enter Tryz.func24, Tryz.ntmps24
    go_wp2
    go_ret
    exact ⟨ret_bool rfl, rfl⟩
end Go.Proofs.YteleknojohnlbaaGreat
namespace Go.Proofs.YteleknojohnlbaaGreat
open Go.RowKit
set_option linter.unusedVariables false
set_option maxRecDepth 100000
set_option linter.unusedSimpArgs false
theorem secs_le (g : Gn) : 4 + 2 * g.W ≤ secsG g := by unfold secsG; exact Nat.le_add_right _ _
def n_mul (g : Gn) : Nat := 2 * g.S * (g.K + g.M)
theorem n_mul_le {g : Gn} (hg : g.Ok) : n_mul g ≤ 1536 := by
  have h3 := hg.s2
  have h4 := hg.k2
  have h5 := hg.m2
  exact Nat.mul_le_mul (show 2 * g.S ≤ 64 by omega) (show g.K + g.M ≤ 24 by omega)
theorem secs_max {g : Gn} (hg : g.Ok) : secsG g ≤ 2564 := by
  have h1 := hg.w2
  have h3 := hg.s2
  have h4 := hg.k2
  have h5 := hg.m2
  have hmul : n_mul g ≤ 1536 := n_mul_le hg
  unfold n_mul at hmul
  unfold secsG
  omega
def smallB (N : Nat → Nat) (m : Nat) : Bool := if m ≤ 12 then fewTo N 1500 m else false
theorem fewTo_all {N : Nat → Nat} {b : Nat} : ∀ {n : Nat}, fewTo N b n = true → ∀ c, c < n → N c ≤ b
  | n + 1, h, c, hc => by
    have h' : (fewTo N b n && decide (N n ≤ b)) = true := h
    obtain ⟨h1, h2⟩ := Bool.and_eq_true_iff.1 h'
    by_cases q : c = n
    · subst q; exact of_decide_eq_true h2
    · exact fewTo_all h1 c (by omega)
theorem small_bs {w : World} {A : Option Addr} {m C : Nat} {q : Nat → Br} (h : RowBs w A m C q) (hs : smallB (fun c => (q c).n) m = true) : BsV w A m C (fun c => (q c).n) (fun c => (q c).z) := by
  unfold smallB at hs
  split at hs
  · exact h.bs' (by omega) fun c hc => by have := fewTo_all hs c hc; omega
  · cases hs
end Go.Proofs.YteleknojohnlbaaGreat
namespace Go.Proofs.YteleknojohnlbaaGreat
open Go.RowKit
set_option linter.unusedVariables false
set_option maxRecDepth 100000
set_option linter.unusedSimpArgs false
structure Live (N : Nat) (d : Dev) : Prop where
  n : d.n = N
  dead : d.dead = false
  W : d.W = []
  drops : ∀ a, d.drops a = 0
  miss : ∀ a, d.miss a = []
theorem arm_live {N : Nat} {d : Dev} (h : Fine N d) (n : Int) : Live N (armD d n) := ⟨h.qt.n, h.qt.dead, h.qt.W, h.drops, h.miss⟩
theorem dies_all (d : Dev) : (diesD d).n = d.n ∧ (diesD d).W = d.W ∧ (diesD d).drops = d.drops ∧ (diesD d).miss = d.miss ∧ (diesD d).has = d.has ∧ (diesD d).lost = d.lost := by
  unfold diesD
  split
  · split <;> exact ⟨rfl, rfl, rfl, rfl, rfl, rfl⟩
  · exact ⟨rfl, rfl, rfl, rfl, rfl, rfl⟩
theorem dies_live {d : Dev} (h : diesB d = false) : (diesD d).dead = d.dead := by
  unfold diesB at h
  unfold diesD
  cases ha : d.armed
  · rfl
  · rw [ha, Bool.true_and] at h
    have := of_decide_eq_false h
    rw [if_pos rfl, if_pos (by omega)]
structure Dying (N : Nat) (d : Dev) (k : Nat) (z : Nat → Nat) (d' : Dev) : Prop where
  n : d'.n = N
  has : d'.has = d.has
  lost : d'.lost = d.lost
  drops : ∀ a, d'.drops a = 0
  miss : ∀ a, d'.miss a = []
  W : d'.W = [] ∨ d'.W = [⟨k, z⟩]
structure Wrote (N : Nat) (d : Dev) (k : Nat) (z : Nat → Nat) (d' : Dev) : Prop where
  live : Live N d'
  has : HasZ d' k z
  other : ∀ a, a ≠ k → d'.has a = d.has a ∧ d'.lost a = d.lost a
theorem try_live {N k : Nat} {d : Dev} (h : Live N d) (hk : k < N) (z : Nat → Nat) :
    (tryE d ⟨(k : Int), 256, z⟩ = 21 ∧ Dying N d k z (tryD d ⟨(k : Int), 256, z⟩)) ∨ (tryE d ⟨(k : Int), 256, z⟩ = 0 ∧ Wrote N d k z (tryD d ⟨(k : Int), 256, z⟩)) := by
  have hb : hasB d (k : Int) = true := decide_eq_true (by rw [h.n]; omega)
  have ho : openE d (k : Int) = 0 := by unfold openE; rw [h.dead, hb]; rfl
  obtain ⟨p1, p2, p3, p4, p5, p6⟩ := dies_all d
  cases hd : diesB d
  case true =>
    have e1 : writeE d (k : Int) 256 = 21 := by unfold writeE; rw [ho, hd]; rfl
    have eW : writeD d (k : Int) 256 z = diesD d := by unfold writeD; rw [if_pos ⟨ho, rfl⟩, hd]; rfl
    left
    constructor
    · show (if writeE d (k : Int) 256 = 0 then _ else writeE d (k : Int) 256) = 21
      rw [e1]; rfl
    · show Dying N d k z (if writeE d (k : Int) 256 = 0 then _ else writeD d (k : Int) 256 z)
      rw [e1, if_neg (by decide), eW]
      exact ⟨p1.trans h.n, p5, p6, fun a => by rw [p3]; exact h.drops a, fun a => by rw [p4]; exact h.miss a, Or.inl (p2.trans h.W)⟩
  case false =>
    have hl := dies_live hd
    have e1 : writeE d (k : Int) 256 = 0 := by unfold writeE; rw [ho, hd]; rfl
    obtain ⟨d', hd'⟩ : ∃ d', d' = writeD d (k : Int) 256 z := ⟨_, rfl⟩
    have eW : d' = { diesD d with ops := d.ops + 1, W := [⟨k, z⟩] } := by
      rw [hd']
      unfold writeD
      rw [if_pos ⟨ho, rfl⟩, hd, Int.toNat_natCast]
      have a1 : (wr1 d).drops k = 0 := by show (diesD d).drops k = 0; rw [p3]; exact h.drops k
      have a2 : (wr1 d).miss k = [] := by show (diesD d).miss k = []; rw [p4]; exact h.miss k
      have a3 : aimC (wr1 d) k = true := decide_eq_true (by omega)
      have a4 : aimD (wr1 d) k = wr1 d := by unfold aimD; rw [if_neg (by omega), a2]
      have a5 : aimT (wr1 d) k = k := by unfold aimT; rw [if_neg (by omega), a2]
      rw [a3, a4, a5, h.W]
      rfl
    have b1 : d'.n = N := by rw [eW]; exact p1.trans h.n
    have b2 : d'.dead = false := by rw [eW]; exact hl.trans h.dead
    have b3 : d'.has = d.has := by rw [eW]; exact p5
    have b4 : d'.lost = d.lost := by rw [eW]; exact p6
    have b5 : d'.W = [⟨k, z⟩] := by rw [eW]
    have b6 : d'.drops = d.drops := by rw [eW]; exact p3
    have b7 : d'.miss = d.miss := by rw [eW]; exact p4
    obtain ⟨r1, r2, r3, r4, r5, r6⟩ := dies_all d'
    have tE : tryE d ⟨(k : Int), 256, z⟩ = (if flushE d' = 0 then (if readE (flushD d') (k : Int) = 0 ∨ readE (flushD d') (k : Int) = 20 then (if asP (flushD d') ⟨(k : Int), 256, z⟩ then 0 else -1) else readE (flushD d') (k : Int)) else flushE d') := by
      subst hd'
      exact if_pos e1
    have tD : tryD d ⟨(k : Int), 256, z⟩ = (if flushE d' = 0 then readD (flushD d') (k : Int) else flushD d') := by
      subst hd'
      exact if_pos e1
    rw [tE, tD]
    cases hf : diesB d'
    case true =>
      have f1 : flushE d' = 21 := by unfold flushE; rw [b2, hf]; rfl
      have f2 : flushD d' = diesD d' := by unfold flushD; rw [b2, hf]; rfl
      left
      rw [f1, if_neg (by decide), if_neg (by decide), f2]
      exact ⟨rfl, r1.trans b1, r5.trans b3, r6.trans b4, fun a => by rw [r3, b6]; exact h.drops a, fun a => by rw [r4, b7]; exact h.miss a, Or.inr (r2.trans b5)⟩
    case false =>
      have f1 : flushE d' = 0 := by unfold flushE; rw [b2, hf]; rfl
      obtain ⟨d2, hd2⟩ : ∃ d2, d2 = flushD d' := ⟨_, rfl⟩
      have f2 : d2 = { diesD d' with has := up d.has k z, lost := up d.lost k false, W := [] } := by
        rw [hd2]
        unfold flushD
        rw [b2, hf, b5]
        show ({ finD (diesD d') ⟨k, z⟩ with W := [] } : Dev) = _
        unfold finD
        rw [r5, r6, b3, b4]
      have c1 : Qt N { d2 with armed := false } := ⟨by rw [f2]; exact r1.trans b1, by rw [f2]; exact (dies_live hf).trans b2, rfl, by rw [f2]⟩
      obtain ⟨k1, k2, k3⟩ := c1.read hk
      have g1 : readE d2 (k : Int) = 0 := by
        have : readE d2 (k : Int) = readE { d2 with armed := false } (k : Int) := rfl
        rw [this, k1]
        have : ({ d2 with armed := false } : Dev).lost k = false := by rw [f2]; show up d.lost k false k = false; exact up_same _ _ _
        rw [this]; rfl
      have g3 : readZ d2 (k : Int) = z := by
        have : readZ d2 (k : Int) = readZ { d2 with armed := false } (k : Int) := rfl
        rw [this, k3, f2]
        show up d.has k z k = _
        exact up_same _ _ _
      have g2 : readD d2 (k : Int) = { d2 with ops := d2.ops + 1 } := by
        have e : openE d2 (k : Int) = 0 := by
          have : readE d2 (k : Int) = 0 := g1
          by_cases q : openE d2 (k : Int) = 0
          · exact q
          · rw [(openE_ne q).1] at this; exact this
        unfold readD; rw [if_pos e]
      have g4 : asP d2 ⟨(k : Int), 256, z⟩ = true := by
        show (decide (readE d2 (k : Int) = 0) && eqB (readL d2 (k : Int)) 256 (readZ d2 (k : Int)) z) = true
        rw [g1, g3, show readL d2 (k : Int) = 256 from if_pos g1]
        simp [eqB]
      right
      rw [f1, if_pos rfl, if_pos rfl, ← hd2, g1, if_pos (Or.inl rfl), g4, if_pos rfl, g2]
      refine ⟨rfl, ⟨?_, ?_, ?_, ?_, ?_⟩, ⟨?_, fun c _ => ?_⟩, fun a ha => ⟨?_, ?_⟩⟩
      · rw [f2]; exact r1.trans b1
      · rw [f2]; exact (dies_live hf).trans b2
      · rw [f2]
      · intro a; rw [f2]; show (diesD d').drops a = 0; rw [r3, b6]; exact h.drops a
      · intro a; rw [f2]; show (diesD d').miss a = []; rw [r4, b7]; exact h.miss a
      · rw [f2]; exact up_same _ _ _
      · rw [f2]; show up d.has k z k c = _; rw [up_same]
      · rw [f2]; exact up_other _ _ ha
      · rw [f2]; exact up_other _ _ ha
theorem kep_live {N k : Nat} {d : Dev} (h : Live N d) (hk : k < N) (z : Nat → Nat) :
    (kepE 4 d ⟨(k : Int), 256, z⟩ = 21 ∧ Dying N d k z (kepD 4 d ⟨(k : Int), 256, z⟩)) ∨ (kepE 4 d ⟨(k : Int), 256, z⟩ = 0 ∧ Wrote N d k z (kepD 4 d ⟨(k : Int), 256, z⟩)) := by
  have e1 : kepE 4 d ⟨(k : Int), 256, z⟩ = if tryE d ⟨(k : Int), 256, z⟩ = -1 then kepE 3 (tryD d ⟨(k : Int), 256, z⟩) ⟨(k : Int), 256, z⟩ else tryE d ⟨(k : Int), 256, z⟩ := rfl
  have e2 : kepD 4 d ⟨(k : Int), 256, z⟩ = if tryE d ⟨(k : Int), 256, z⟩ = -1 then kepD 3 (tryD d ⟨(k : Int), 256, z⟩) ⟨(k : Int), 256, z⟩ else tryD d ⟨(k : Int), 256, z⟩ := rfl
  rw [e1, e2]
  rcases try_live h hk z with ⟨a, b⟩ | ⟨a, b⟩
  · rw [a, if_neg (by decide), if_neg (by decide)]; exact Or.inl ⟨rfl, b⟩
  · rw [a, if_neg (by decide), if_neg (by decide)]; exact Or.inr ⟨rfl, b⟩
theorem dying_crash {N k : Nat} {d d' : Dev} {z : Nat → Nat} (h : Dying N d k z d') (m : Nat) (q : Nat → Bool) : Fine N (crashD d' m q) ∧ ((∀ a, (crashD d' m q).has a = d.has a ∧ (crashD d' m q).lost a = d.lost a) ∨ (HasZ (crashD d' m q) k z ∧ ∀ a, a ≠ k → (crashD d' m q).has a = d.has a ∧ (crashD d' m q).lost a = d.lost a)) := by
  rcases h.W with e | e
  · have c : crashD d' m q = { d' with W := [], dead := false, armed := false } := by unfold crashD; rw [e]; rfl
    rw [c]
    exact ⟨⟨⟨h.n, rfl, rfl, rfl⟩, h.drops, h.miss⟩, Or.inl fun a => ⟨congrFun h.has a, congrFun h.lost a⟩⟩
  · have c : crashD d' m q = { (if keepB m q 0 then finD d' ⟨k, z⟩ else d') with W := [], dead := false, armed := false } := by
      unfold crashD
      rw [e]
      show ({ crTo d' m q 1 with W := [], dead := false, armed := false } : Dev) = _
      unfold crTo
      rw [e]
      rfl
    rw [c]
    by_cases hk : keepB m q 0 = true
    · rw [if_pos hk]
      refine ⟨⟨⟨h.n, rfl, rfl, rfl⟩, h.drops, h.miss⟩, Or.inr ⟨⟨?_, fun c _ => ?_⟩, fun a ha => ⟨?_, ?_⟩⟩⟩
      · exact up_same _ _ _
      · show up d'.has k z k c = _; rw [up_same]
      · show up d'.has k z a = _; rw [up_other _ _ ha, h.has]
      · show up d'.lost k false a = _; rw [up_other _ _ ha, h.lost]
    · rw [if_neg hk]
      exact ⟨⟨⟨h.n, rfl, rfl, rfl⟩, h.drops, h.miss⟩, Or.inl fun a => ⟨congrFun h.has a, congrFun h.lost a⟩⟩
theorem live_crash {N : Nat} {d : Dev} (h : Live N d) (m : Nat) (q : Nat → Bool) : Fine N (crashD d m q) ∧ ∀ a, (crashD d m q).has a = d.has a ∧ (crashD d m q).lost a = d.lost a := by
  have c : crashD d m q = { d with W := [], dead := false, armed := false } := by unfold crashD; rw [h.W]; rfl
  rw [c]
  exact ⟨⟨⟨h.n, rfl, rfl, rfl⟩, h.drops, h.miss⟩, fun a => ⟨rfl, rfl⟩⟩
end Go.Proofs.YteleknojohnlbaaGreat
namespace Go.Proofs.YteleknojohnlbaaGreat
open Go.RowKit
set_option linter.unusedVariables false
set_option maxRecDepth 100000
set_option linter.unusedSimpArgs false
def setM (C : Nat → Nat → Ct) (sl : Nat) (q : Pn) (c s : Nat) : Ct := if s = sl ∧ c = 0 then .pc q else C c s
section
variable {vol : Int} {g : Gn} {N : Nat} {d : Dev} {C : Nat → Nat → Ct}
theorem dev_same {d' : Dev} (hL : DevL vol g d C) (h : ∀ a, d'.has a = d.has a ∧ d'.lost a = d.lost a) : DevL vol g d' C := fun c s hc hs => (hL c s hc hs).same (h _).1 (h _).2
theorem dev_m0 (hg : g.Ok) (hL : DevL vol g d C) {q : Pn} (hr : rokB vol g.ge 0 q = true) (hb : ∀ y ∈ q.B, y < 256) {d1 : Dev} (hz : HasZ d1 (adN g 0 (slN g q)) (sectR vol g.ge ((0 : Nat) : Int) q)) (ho : ∀ a, a ≠ adN g 0 (slN g q) → d1.has a = d.has a ∧ d1.lost a = d.lost a) : DevL vol g d1 (setM C (slN g q) q) := by
  obtain ⟨s1, s2⟩ := slN_eq hg (q := q)
  intro c s hc hs
  unfold setM
  by_cases e : s = slN g q ∧ c = 0
  · rw [if_pos e]
    obtain ⟨e1, e2⟩ := e
    subst e1 e2
    exact ⟨hz, hr, s1.symm, hb⟩
  · rw [if_neg e]
    have ne : adN g c s ≠ adN g 0 (slN g q) := fun x => e (by obtain ⟨a, b⟩ := adN_inj hc (by omega) hs s2 x; exact ⟨b, a⟩)
    exact (hL c s hc hs).same (ho _ ne).1 (ho _ ne).2
theorem dev_m1 (hg : g.Ok) {q : Pn} (hL : DevL vol g d (setM C (slN g q) q)) (hr : rokB vol g.ge 0 q = true) (hb : ∀ y ∈ q.B, y < 256) {d1 : Dev} (hz : HasZ d1 (adN g 1 (slN g q)) (sectR vol g.ge ((1 : Nat) : Int) q)) (ho : ∀ a, a ≠ adN g 1 (slN g q) → d1.has a = d.has a ∧ d1.lost a = d.lost a) : DevL vol g d1 (setC C (slN g q) q) := by
  obtain ⟨s1, s2⟩ := slN_eq hg (q := q)
  intro c s hc hs
  unfold setC
  by_cases e : s = slN g q
  · rw [if_pos e]
    subst e
    obtain rfl | rfl : c = 0 ∨ c = 1 := by omega
    · have ne : adN g 0 (slN g q) ≠ adN g 1 (slN g q) := fun x => by have := (adN_inj (by omega) (by omega) s2 s2 x).1; omega
      have := hL 0 (slN g q) hc hs
      unfold setM at this
      rw [if_pos ⟨rfl, rfl⟩] at this
      exact this.same (ho _ ne).1 (ho _ ne).2
    · exact ⟨hz, hr, s1.symm, hb⟩
  · rw [if_neg e]
    have ne : adN g c s ≠ adN g 1 (slN g q) := fun x => e (adN_inj hc (by omega) hs s2 x).2
    have := hL c s hc hs
    unfold setM at this
    rw [if_neg (fun x => e x.1)] at this
    exact this.same (ho _ ne).1 (ho _ ne).2
theorem piece_live (hg : g.Ok) (hN : 4 + 2 * g.W ≤ N) (h : Live N d) (hL : DevL vol g d C) {x : Rg} {q : Pn} (hv : x.vol = vol) (hx : x.g = g.ge) (hr : rokB vol g.ge 0 q = true) (hb : ∀ y ∈ q.B, y < 256) :
    (wrE x q d = 0 ∧ Live N (wrD x q d) ∧ DevL vol g (wrD x q d) (setC C (slN g q) q)) ∨
    (wrE x q d = 21 ∧ ∀ m qf, ∃ C2, (C2 = C ∨ C2 = setM C (slN g q) q ∨ C2 = setC C (slN g q) q) ∧ Fine N (crashD (wrD x q d) m qf) ∧ DevL vol g (crashD (wrD x q d) m qf) C2) := by
  obtain ⟨s1, s2⟩ := slN_eq hg (q := q)
  have a0 := adN_lt (c := 0) (by omega) s2 hN
  have a1 := adN_lt (c := 1) (by omega) s2 hN
  have p0 := put_at hg hx (q := q) 0
  have p1 := put_at hg hx (q := q) 1
  rw [hv] at p0 p1
  have h1 : allTo (putR x q) d 1 = ⟨kepD 4 d (putR x q 0), kepE 4 d (putR x q 0)⟩ := if_pos rfl
  have h2 : allTo (putR x q) d 2 = if (allTo (putR x q) d 1).e = 0 then ⟨kepD 4 (allTo (putR x q) d 1).d (putR x q 1), kepE 4 (allTo (putR x q) d 1).d (putR x q 1)⟩ else allTo (putR x q) d 1 := rfl
  rcases kep_live h a0 (sectR vol g.ge ((0 : Nat) : Int) q) with ⟨e1, y1⟩ | ⟨e1, y1⟩
  · right
    have hall : allTo (putR x q) d 2 = ⟨kepD 4 d (putR x q 0), 21⟩ := by
      rw [h2, h1, p0, e1, if_neg (show ¬ (21 : Int) = 0 by decide)]
    unfold wrE wrD
    rw [hall, p0]
    refine ⟨rfl, fun m qf => ?_⟩
    obtain ⟨f1, f2⟩ := dying_crash y1 m qf
    rcases f2 with f2 | ⟨f2, f3⟩
    · exact ⟨C, Or.inl rfl, f1, dev_same hL f2⟩
    · exact ⟨_, Or.inr (Or.inl rfl), f1, dev_m0 hg hL hr hb f2 f3⟩
  · have l1 := dev_m0 hg hL hr hb y1.has y1.other
    rcases kep_live y1.live a1 (sectR vol g.ge ((1 : Nat) : Int) q) with ⟨e2, y2⟩ | ⟨e2, y2⟩
    · right
      have hall : allTo (putR x q) d 2 = ⟨kepD 4 (kepD 4 d (putR x q 0)) (putR x q 1), 21⟩ := by
        rw [h2, h1, p0, p1, if_pos e1, e2]
      unfold wrE wrD
      rw [hall, p0, p1]
      refine ⟨rfl, fun m qf => ?_⟩
      obtain ⟨f1, f2⟩ := dying_crash y2 m qf
      rcases f2 with f2 | ⟨f2, f3⟩
      · exact ⟨_, Or.inr (Or.inl rfl), f1, dev_same l1 f2⟩
      · exact ⟨_, Or.inr (Or.inr rfl), f1, dev_m1 hg l1 hr hb f2 f3⟩
    · left
      have hall : allTo (putR x q) d 2 = ⟨kepD 4 (kepD 4 d (putR x q 0)) (putR x q 1), 0⟩ := by
        rw [h2, h1, p0, p1, if_pos e1, e2]
      unfold wrE wrD
      rw [hall, p0, p1]
      exact ⟨rfl, y2.live, dev_m1 hg l1 hr hb y2.has y2.other⟩
end
structure LifeS (vol : Int) (g : Gn) (N : Nat) (E : Int) (n0 : Nat) (a0 : Pn) (c0 : Int) (C0 : Nat → Nat → Ct) (d : Dev) (x : Rg) (C : Nat → Nat → Ct) (Q : List Pn) : Prop where
  live : Live N d
  dev : DevL vol g d C
  pcs : ∀ (i : Nat) (q : Pn), Q[i]? = some q → (q.seq = ((n0 + i : Nat) : Int) ∧ q.ep = E ∧ 1 ≤ q.ofn) ∧ ∀ c, c < 2 → C c (n0 + i) = .pc q
  rest : ∀ c s, s < n0 ∨ n0 + Q.length ≤ s → C c s = C0 c s
  fits : FitsL (sumR vol g.ge) a0 c0 Q
  aft : RgAft (endA a0 Q) (endS (sumR vol g.ge) c0 Q) x
  ok : RgOk x
  vx : x.vol = vol
  gx : x.g = g.ge
  ep : x.ep = E
  start : x.start = 0
  next : x.next = ((n0 + Q.length : Nat) : Int)
  le : n0 + Q.length ≤ g.W
structure LandS (vol : Int) (g : Gn) (E : Int) (n0 : Nat) (a0 : Pn) (c0 : Int) (C0 C2 : Nat → Nat → Ct) (Q : List Pn) : Prop where
  pcs : ∀ (i : Nat) (q : Pn), Q[i]? = some q → (q.seq = ((n0 + i : Nat) : Int) ∧ q.ep = E ∧ 1 ≤ q.ofn) ∧ C2 0 (n0 + i) = .pc q ∧ (C2 1 (n0 + i) = .pc q ∨ C2 1 (n0 + i) = C0 1 (n0 + i))
  rest : ∀ c s, s < n0 ∨ n0 + Q.length ≤ s → C2 c s = C0 c s
  fits : FitsL (sumR vol g.ge) a0 c0 Q
  le : n0 + Q.length ≤ g.W
section
variable {vol : Int} {g : Gn} {N : Nat} {E : Int} {n0 : Nat} {a0 : Pn} {c0 : Int} {C0 : Nat → Nat → Ct} {d : Dev} {x : Rg} {C : Nat → Nat → Ct} {Q : List Pn}
theorem LifeS.land (h : LifeS vol g N E n0 a0 c0 C0 d x C Q) : LandS vol g E n0 a0 c0 C0 C Q :=
  ⟨fun i q hq => ⟨(h.pcs i q hq).1, (h.pcs i q hq).2 0 (by omega), Or.inl ((h.pcs i q hq).2 1 (by omega))⟩, h.rest, h.fits, h.le⟩
theorem get_snoc {α : Type} {P : List α} {p q : α} {j : Nat} (h : (P ++ [p])[j]? = some q) : (j < P.length ∧ P[j]? = some q) ∨ (j = P.length ∧ p = q) := by
  by_cases c : j < P.length
  · rw [List.getElem?_append_left c] at h; exact Or.inl ⟨c, h⟩
  · have hj := (List.getElem?_eq_some_iff.1 h).1
    rw [List.length_append] at hj
    simp only [List.length_cons, List.length_nil] at hj
    obtain rfl : j = P.length := by omega
    rw [List.getElem?_append_right (Nat.le_refl _), Nat.sub_self] at h
    injection h with h
    exact Or.inr ⟨rfl, h⟩
theorem LifeS.piece (h : LifeS vol g N E n0 a0 c0 C0 d x C Q) (hg : g.Ok) (hN : 4 + 2 * g.W ≤ N) (hP : n0 + Q.length < g.W) {o : Int} (ho : 1 ≤ o ∧ o ≤ 64) {i : Nat} (hi : (i : Int) < o) {B : List Nat} (hB : ∀ y ∈ B, y < 256) :
    (wrE x (apQ o B x i) d = 0 ∧ ∃ C', LifeS vol g N E n0 a0 c0 C0 (wrD x (apQ o B x i) d) (nxR x (apQ o B x i) 0) C' (Q ++ [apQ o B x i])) ∨
    (wrE x (apQ o B x i) d = 21 ∧ ∀ m qf, ∃ C2, (LandS vol g E n0 a0 c0 C0 C2 Q ∨ LandS vol g E n0 a0 c0 C0 C2 (Q ++ [apQ o B x i])) ∧ Fine N (crashD (wrD x (apQ o B x i) d) m qf) ∧ DevL vol g (crashD (wrD x (apQ o B x i) d) m qf) C2) := by
  have hrok := ap_rok (B := B) h.ok ho hi
  rw [h.vx, h.gx] at hrok
  have hqb : ∀ y ∈ (apQ o B x i).B, y < 256 := pcB_b hB i
  have hW := hg.w2
  have hpl := piece_live hg hN h.live h.dev h.vx h.gx hrok hqb
  obtain ⟨q, hq⟩ : ∃ q, q = apQ o B x i := ⟨_, rfl⟩
  have hqs : q.seq = ((n0 + Q.length : Nat) : Int) := by rw [hq]; exact h.next
  have hqe : q.ep = E := by rw [hq]; exact h.ep
  have hqo : 1 ≤ q.ofn := by rw [hq]; exact ho.1
  have hsl : slN g q = n0 + Q.length := by
    unfold slN
    rw [hqs, show g.ge.wal = (g.W : Int) from rfl, ← Int.natCast_emod, Nat.mod_eq_of_lt hP]
    exact Int.toNat_natCast _
  have haf := aft_fits h.aft o B i
  have hax := aft_next o B x i
  rw [← hq] at hpl hrok hqb haf hax ⊢
  rw [hsl] at hpl
  have hfit : FitsL (sumR vol g.ge) a0 c0 (Q ++ [q]) := fits_app h.fits ⟨haf, trivial⟩
  have hlen : (Q ++ [q]).length = Q.length + 1 := by rw [List.length_append]; rfl
  rcases hpl with ⟨e1, e2, e3⟩ | ⟨e1, e2⟩
  · left
    refine ⟨e1, _, ⟨e2, e3, fun j p hj => ?_, fun c s hs => ?_, hfit, ?_, ?_, ?_, ?_, ?_, ?_, ?_, ?_⟩⟩
    · rcases get_snoc hj with ⟨c, hj⟩ | ⟨rfl, rfl⟩
      · obtain ⟨h1, h2⟩ := h.pcs j p hj
        refine ⟨h1, fun m hm => ?_⟩
        unfold setC
        rw [if_neg (by omega)]
        exact h2 m hm
      · exact ⟨⟨hqs, hqe, hqo⟩, fun m hm => if_pos rfl⟩
    · rw [hlen] at hs
      unfold setC
      rw [if_neg (by omega)]
      exact h.rest c s (by omega)
    · rw [endA_app, endS_app]
      rw [h.vx, h.gx] at hax
      exact hax
    · rw [nx0]
      refine ⟨h.ok.may, h.ok.vol, h.ok.ep, ?_, sumR_word hqb, ?_, ?_⟩
      · show 0 ≤ x.fr ∧ x.fr ≤ x.next + 1; have := h.ok.fr; omega
      · show x.next + 1 ≤ 4294967295; rw [h.next]; omega
      · show 0 ≤ x.start ∧ x.start ≤ x.next + 1; have := h.ok.st; omega
    · rw [nx0]; exact h.vx
    · rw [nx0]; exact h.gx
    · rw [nx0]; exact h.ep
    · rw [nx0]; exact h.start
    · rw [nx0]
      show x.next + 1 = _
      rw [h.next, hlen]; omega
    · rw [hlen]; omega
  · right
    refine ⟨e1, fun m qf => ?_⟩
    obtain ⟨C2, hC, f1, f2⟩ := e2 m qf
    refine ⟨C2, ?_, f1, f2⟩
    rcases hC with rfl | rfl | rfl
    · exact Or.inl h.land
    · right
      refine ⟨fun j p hj => ?_, fun c s hs => ?_, hfit, by rw [hlen]; omega⟩
      · rcases get_snoc hj with ⟨c, hj⟩ | ⟨rfl, rfl⟩
        · obtain ⟨h1, h2⟩ := h.pcs j p hj
          unfold setM
          rw [if_neg (by omega), if_neg (by omega)]
          exact ⟨h1, h2 0 (by omega), Or.inl (h2 1 (by omega))⟩
        · refine ⟨⟨hqs, hqe, hqo⟩, if_pos ⟨rfl, rfl⟩, Or.inr ?_⟩
          unfold setM
          rw [if_neg (by omega)]
          exact h.rest 1 _ (Or.inr (Nat.le_refl _))
      · rw [hlen] at hs
        unfold setM
        rw [if_neg (by omega)]
        exact h.rest c s (by omega)
    · right
      refine ⟨fun j p hj => ?_, fun c s hs => ?_, hfit, by rw [hlen]; omega⟩
      · rcases get_snoc hj with ⟨c, hj⟩ | ⟨rfl, rfl⟩
        · obtain ⟨h1, h2⟩ := h.pcs j p hj
          unfold setC
          rw [if_neg (by omega), if_neg (by omega)]
          exact ⟨h1, h2 0 (by omega), Or.inl (h2 1 (by omega))⟩
        · exact ⟨⟨hqs, hqe, hqo⟩, if_pos rfl, Or.inl (if_pos rfl)⟩
      · rw [hlen] at hs
        unfold setC
        rw [if_neg (by omega)]
        exact h.rest c s (by omega)
theorem LifeS.pieces (h : LifeS vol g N E n0 a0 c0 C0 d x C Q) (hg : g.Ok) (hN : 4 + 2 * g.W ≤ N) {o : Nat} (ho : 1 ≤ o ∧ o ≤ 64) (hP : n0 + Q.length + o ≤ g.W) {B : List Nat} (hB : ∀ y ∈ B, y < 256) : ∀ k, k ≤ o →
    (∃ C' d', apL (o : Int) B ⟨d, x, 0⟩ (List.range k) = ⟨d', ringTo (o : Int) B x k, 0⟩ ∧ LifeS vol g N E n0 a0 c0 C0 d' (ringTo (o : Int) B x k) C' (Q ++ txP (o : Int) B x k)) ∨
    ((apL (o : Int) B ⟨d, x, 0⟩ (List.range k)).e = 21 ∧ ∀ m qf, ∃ C2 j, j ≤ k ∧ LandS vol g E n0 a0 c0 C0 C2 (Q ++ txP (o : Int) B x j) ∧ Fine N (crashD (apL (o : Int) B ⟨d, x, 0⟩ (List.range k)).d m qf) ∧ DevL vol g (crashD (apL (o : Int) B ⟨d, x, 0⟩ (List.range k)).d m qf) C2)
  | 0, _ => Or.inl ⟨C, d, rfl, by simp only [txP, List.range_zero, List.map_nil, List.append_nil]; exact h⟩
  | k + 1, hk => by
    rw [List.range_succ, apL_snoc]
    rcases LifeS.pieces h hg hN ho hP hB k (by omega) with ⟨C', d', e1, l1⟩ | ⟨e1, e2⟩
    · have hlen : (Q ++ txP (o : Int) B x k).length = Q.length + k := by rw [List.length_append, txP_len]
      rw [e1]
      unfold apStep
      rw [if_pos rfl]
      rcases l1.piece hg hN (by rw [hlen]; omega) (o := (o : Int)) ⟨by omega, by omega⟩ (i := k) (by omega) hB with ⟨a1, C3, a3⟩ | ⟨a1, a2⟩
      · left
        refine ⟨C3, wrD (ringTo (o : Int) B x k) (apQ (o : Int) B (ringTo (o : Int) B x k) k) d', ?_, ?_⟩
        · simp only [a1]
          rfl
        · rw [txP_snoc, ← List.append_assoc]
          exact a3
      · right
        refine ⟨a1, fun m qf => ?_⟩
        obtain ⟨C2, hl, f1, f2⟩ := a2 m qf
        rcases hl with hl | hl
        · exact ⟨C2, k, by omega, hl, f1, f2⟩
        · refine ⟨C2, k + 1, Nat.le_refl _, ?_, f1, f2⟩
          rw [txP_snoc, ← List.append_assoc]
          exact hl
    · right
      have e3 : apStep (o : Int) B (apL (o : Int) B ⟨d, x, 0⟩ (List.range k)) k = apL (o : Int) B ⟨d, x, 0⟩ (List.range k) := if_neg (by rw [e1]; decide)
      rw [e3]
      refine ⟨e1, fun m qf => ?_⟩
      obtain ⟨C2, j, hj, r⟩ := e2 m qf
      exact ⟨C2, j, by omega, r⟩
theorem LifeS.app (h : LifeS vol g N E n0 a0 c0 C0 d x C Q) (hg : g.Ok) (hN : 4 + 2 * g.W ≤ N) {B : List Nat} (hB : ∀ y ∈ B, y < 256) :
    (((appS x B d).e = 2 ∨ (appS x B d).e = 4) ∧ (appS x B d).d = d ∧ (appS x B d).x = x) ∨
    ((appS x B d).e = 0 ∧ ∃ C', LifeS vol g N E n0 a0 c0 C0 (appS x B d).d (appS x B d).x C' (Q ++ txP (cntN B.length : Int) B x (cntN B.length))) ∨
    ((appS x B d).e = 21 ∧ ∀ m qf, ∃ C2 j, j ≤ cntN B.length ∧ LandS vol g E n0 a0 c0 C0 C2 (Q ++ txP (cntN B.length : Int) B x j) ∧ Fine N (crashD (appS x B d).d m qf) ∧ DevL vol g (crashD (appS x B d).d m qf) C2) := by
  by_cases he : apE0 x B.length = 0
  · right
    have hc := cntN_eq B.length
    have hp := cntN_pos B.length
    obtain ⟨h1, h2, h3⟩ : ¬ 64 < cntR B.length ∧ ¬ x.g.wal < x.next + cntR B.length - x.start ∧ ¬ 4294967295 < x.next + cntR B.length := by
      unfold apE0 at he
      by_cases q : 64 < cntR B.length
      · rw [if_pos q] at he; cases he
      · rw [if_neg q] at he
        by_cases r : x.g.wal < x.next + cntR B.length - x.start ∨ 4294967295 < x.next + cntR B.length
        · rw [if_pos r] at he; cases he
        · exact ⟨q, fun e => r (Or.inl e), fun e => r (Or.inr e)⟩
    have hw : x.g.wal = (g.W : Int) := by rw [h.gx]; rfl
    have hnx := h.next
    have hst := h.start
    have ea : appS x B d = apL (cntN B.length : Int) B ⟨d, x, 0⟩ (List.range (cntN B.length)) := by unfold appS; rw [if_pos he, ← hc]
    rw [ea]
    rcases h.pieces hg hN (o := cntN B.length) ⟨hp, by omega⟩ (by omega) hB (cntN B.length) (Nat.le_refl _) with ⟨C', d', e1, l1⟩ | r
    · left
      rw [e1]
      exact ⟨rfl, C', l1⟩
    · exact Or.inr r
  · left
    have ea : appS x B d = ⟨d, x, apE0 x B.length⟩ := by unfold appS; rw [if_neg he]
    rw [ea]
    refine ⟨?_, rfl, rfl⟩
    rcases apE0_is x B.length with e | e | e
    · exact absurd e he
    · exact Or.inl e
    · exact Or.inr e
end
end Go.Proofs.YteleknojohnlbaaGreat
