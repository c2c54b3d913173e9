/-
  keep in plain words: a write that is read back, some of them, and those that are not as they should be; what comes of it where few writes go wrong. keep in plain words: how the tries of one write stand. Rows of writes ([]api.Put): tto be read, and of one's own.
-/
import Derived.Test.YtlbdopcchoklhaaGreatMh28
namespace Go.Proofs.YtlbdopcchoklhaaGreat
open Go.RowKit
set_option linter.unusedVariables false
set_option maxRecDepth 100000

/-! ### one write, tried up tto k times -/
structure PutP where
  pl : Int
  n : Nat
  z : Nat → Nat
def kwD (d : Dev) (p : PutP) : Dev := writeD d p.pl p.n p.z
def kfD (d : Dev) (p : PutP) : Dev := flushD (kwD d p)
def krD (d : Dev) (p : PutP) : Dev := readD (kfD d p) p.pl
def asP (d : Dev) (p : PutP) : Bool := decide (readE d p.pl = 0) && eqB (readL d p.pl) p.n (readZ d p.pl) p.z
/-- What a try tells: -1, if it is tto be gone on. -/
def tryE (d : Dev) (p : PutP) : Int := if writeE d p.pl p.n = 0 then (if flushE (kwD d p) = 0 then (if readE (kfD d p) p.pl = 0 ∨ readE (kfD d p) p.pl = 20 then (if asP (kfD d p) p then 0 else -1) else readE (kfD d p) p.pl) else flushE (kwD d p)) else writeE d p.pl p.n
def tryD (d : Dev) (p : PutP) : Dev := if writeE d p.pl p.n = 0 then (if flushE (kwD d p) = 0 then krD d p else kfD d p) else kwD d p
def kepE : Nat → Dev → PutP → Int
  | 0, _, _ => 22
  | k + 1, d, p => if tryE d p = -1 then kepE k (tryD d p) p else tryE d p
def kepD : Nat → Dev → PutP → Dev
  | 0, d, _ => d
  | k + 1, d, p => if tryE d p = -1 then kepD k (tryD d p) p else tryD d p
/-! ### some, in order -/
structure AllS where
  d : Dev
  e : Int
def allTo (F : Nat → PutP) (d : Dev) : Nat → AllS
  | 0 => ⟨d, 0⟩
  | i + 1 => if (allTo F d i).e = 0 then ⟨kepD 4 (allTo F d i).d (F i), kepE 4 (allTo F d i).d (F i)⟩ else allTo F d i
theorem allTo_stop {F : Nat → PutP} {d : Dev} {i : Nat} (h : (allTo F d i).e ≠ 0) : ∀ n, i ≤ n → allTo F d n = allTo F d i
  | 0, hn => by obtain rfl : i = 0 := by omega
                rfl
  | n + 1, hn => by
    by_cases q : i = n + 1
    · rw [q]
    · have ih := allTo_stop h n (by omega)
      show (if (allTo F d n).e = 0 then _ else allTo F d n) = _
      rw [ih, if_neg h]
structure MendS where
  d : Dev
  e : Int
  c : Nat
def mendTo (F : Nat → PutP) (d : Dev) : Nat → MendS
  | 0 => ⟨d, 0, 0⟩
  | i + 1 =>
    let s := mendTo F d i
    let r := readD s.d (F i).pl
    if s.e = 0 then (if readE s.d (F i).pl = 0 ∨ readE s.d (F i).pl = 20 then (if asP s.d (F i) then ⟨r, 0, s.c⟩ else ⟨kepD 4 r (F i), kepE 4 r (F i), if kepE 4 r (F i) = 0 then s.c + 1 else s.c⟩) else ⟨r, readE s.d (F i).pl, s.c⟩) else s
/-! ### a device that nothing waits on, and that does not die -/
structure Qt (N : Nat) (d : Dev) : Prop where
  n : d.n = N
  dead : d.dead = false
  armed : d.armed = false
  W : d.W = []
section
variable {N : Nat} {d : Dev}
theorem Qt.open' (h : Qt N d) {k : Nat} (hk : k < N) : openE d (k : Int) = 0 := by
  have hb : hasB d (k : Int) = true := decide_eq_true (by rw [h.n]; omega)
  unfold openE
  rw [h.dead, hb]
  rfl
theorem Qt.dies (h : Qt N d) : diesB d = false ∧ diesD d = d := by
  unfold diesB diesD
  rw [h.armed]
  exact ⟨rfl, rfl⟩
theorem Qt.read (h : Qt N d) {k : Nat} (hk : k < N) : readE d (k : Int) = (if d.lost k then 20 else 0) ∧ readD d (k : Int) = { d with ops := d.ops + 1 } ∧ readZ d (k : Int) = d.has k := by
  unfold readE readD readZ
  rw [h.open' hk, h.W, lastW_nil, Int.toNat_natCast]
  refine ⟨?_, rfl, rfl⟩
  rw [if_pos rfl]
  rfl
/-- What a write and a flush leave. -/
structure Gone (d d' : Dev) (k : Nat) (z : Nat → Nat) : Prop where
  more : d'.n = d.n ∧ d'.dead = d.dead ∧ d'.armed = d.armed ∧ d'.W = []
  how : (0 < d.drops k ∧ d'.drops = up d.drops k (d.drops k - 1) ∧ d'.miss = d.miss ∧ d'.has = d.has ∧ d'.lost = d.lost) ∨
    (∃ t r, ¬ 0 < d.drops k ∧ d.miss k = t :: r ∧ d'.drops = d.drops ∧ d'.miss = up d.miss k r ∧ d'.has = up d.has t z ∧ d'.lost = up d.lost t false) ∨
    (¬ 0 < d.drops k ∧ d.miss k = [] ∧ d'.drops = d.drops ∧ d'.miss = d.miss ∧ d'.has = up d.has k z ∧ d'.lost = up d.lost k false)
theorem Qt.gone (h : Qt N d) {k : Nat} (hk : k < N) (z : Nat → Nat) : writeE d (k : Int) 256 = 0 ∧ flushE (writeD d (k : Int) 256 z) = 0 ∧ Gone d (flushD (writeD d (k : Int) 256 z)) k z := by
  have ho := h.open' hk
  obtain ⟨hb, hd⟩ := h.dies
  have hw1 : wr1 d = { d with ops := d.ops + 1 } := by unfold wr1; rw [hd]
  have e1 : writeE d (k : Int) 256 = 0 := by unfold writeE; rw [ho, hb]; rfl
  refine ⟨e1, ?_⟩
  by_cases q : 0 < d.drops k
  · have e2 : writeD d (k : Int) 256 z = { d with ops := d.ops + 1, drops := up d.drops k (d.drops k - 1) } := by
      unfold writeD
      rw [if_pos ⟨ho, rfl⟩, hb, hw1, Int.toNat_natCast]
      unfold aimC aimD
      rw [if_pos (show 0 < d.drops k from q)]
      simp [q]
    rw [e2]
    have hq : Qt N { d with ops := d.ops + 1, drops := up d.drops k (d.drops k - 1) } := ⟨h.n, h.dead, h.armed, h.W⟩
    have e3 : flushD { d with ops := d.ops + 1, drops := up d.drops k (d.drops k - 1) } = { d with ops := d.ops + 1, drops := up d.drops k (d.drops k - 1), W := [] } := by
      unfold flushD
      rw [hq.dies.1, hq.dies.2]
      simp only [h.dead, h.W]
      rfl
    refine ⟨by unfold flushE; rw [hq.dies.1]; simp [h.dead], ?_⟩
    rw [e3]
    exact ⟨⟨rfl, rfl, rfl, rfl⟩, Or.inl ⟨q, rfl, rfl, rfl, rfl⟩⟩
  · cases hm : d.miss k with
    | nil =>
      have e2 : writeD d (k : Int) 256 z = { d with ops := d.ops + 1, W := [⟨k, z⟩] } := by
        unfold writeD
        rw [if_pos ⟨ho, rfl⟩, hb, hw1, Int.toNat_natCast]
        unfold aimC aimD aimT
        simp [q, hm, h.W]
      rw [e2]
      have hq : diesB { d with ops := d.ops + 1, W := [⟨k, z⟩] } = false ∧ diesD { d with ops := d.ops + 1, W := [⟨k, z⟩] } = { d with ops := d.ops + 1, W := [⟨k, z⟩] } := by
        unfold diesB diesD
        simp only [h.armed]
        exact ⟨rfl, rfl⟩
      have e3 : flushD { d with ops := d.ops + 1, W := [⟨k, z⟩] } = { d with ops := d.ops + 1, W := [], has := up d.has k z, lost := up d.lost k false } := by
        unfold flushD
        rw [hq.1, hq.2]
        simp only [h.dead]
        rfl
      refine ⟨by unfold flushE; rw [hq.1]; simp [h.dead], ?_⟩
      rw [e3]
      exact ⟨⟨rfl, rfl, rfl, rfl⟩, Or.inr (Or.inr ⟨q, hm, rfl, rfl, rfl, rfl⟩)⟩
    | cons t r =>
      have e2 : writeD d (k : Int) 256 z = { d with ops := d.ops + 1, miss := up d.miss k r, W := [⟨t, z⟩] } := by
        unfold writeD
        rw [if_pos ⟨ho, rfl⟩, hb, hw1, Int.toNat_natCast]
        unfold aimC aimD aimT
        simp [q, hm, h.W]
      rw [e2]
      have hq : diesB { d with ops := d.ops + 1, miss := up d.miss k r, W := [⟨t, z⟩] } = false ∧ diesD { d with ops := d.ops + 1, miss := up d.miss k r, W := [⟨t, z⟩] } = { d with ops := d.ops + 1, miss := up d.miss k r, W := [⟨t, z⟩] } := by
        unfold diesB diesD
        simp only [h.armed]
        exact ⟨rfl, rfl⟩
      have e3 : flushD { d with ops := d.ops + 1, miss := up d.miss k r, W := [⟨t, z⟩] } = { d with ops := d.ops + 1, miss := up d.miss k r, W := [], has := up d.has t z, lost := up d.lost t false } := by
        unfold flushD
        rw [hq.1, hq.2]
        simp only [h.dead]
        rfl
      refine ⟨by unfold flushE; rw [hq.1]; simp [h.dead], ?_⟩
      rw [e3]
      exact ⟨⟨rfl, rfl, rfl, rfl⟩, Or.inr (Or.inl ⟨t, r, q, hm, rfl, rfl, rfl, rfl⟩)⟩
theorem Gone.qt {d' : Dev} {k : Nat} {z : Nat → Nat} (h : Qt N d) (g : Gone d d' k z) : Qt N d' := ⟨g.more.1.trans h.n, g.more.2.1.trans h.dead, g.more.2.2.1.trans h.armed, g.more.2.2.2⟩
end
/-- Sectors that are there, and have what is told of them. -/
def HasZ (d : Dev) (k : Nat) (z : Nat → Nat) : Prop := d.lost k = false ∧ ∀ c, c < 256 → d.has k c = z c
theorem asP_qt {N : Nat} {d : Dev} (h : Qt N d) {k : Nat} (hk : k < N) (z : Nat → Nat) : asP d ⟨(k : Int), 256, z⟩ = true ↔ HasZ d k z := by
  obtain ⟨e1, _, e3⟩ := h.read hk
  unfold asP readL HasZ
  simp only
  rw [e1, e3]
  cases d.lost k
  · rw [if_neg (by decide), if_pos rfl]
    unfold eqB
    simp
  · simp
theorem readE_qt {N : Nat} {d : Dev} (h : Qt N d) {k : Nat} (hk : k < N) : readE d (k : Int) = 0 ∨ readE d (k : Int) = 20 := by
  obtain ⟨e1, _, _⟩ := h.read hk
  rw [e1]
  cases d.lost k
  · exact Or.inl rfl
  · exact Or.inr rfl
/-- A try, plainly. -/
theorem try_qt {N : Nat} {d : Dev} (h : Qt N d) {k : Nat} (hk : k < N) (z : Nat → Nat) : ∃ d', Gone d d' k z ∧ tryD d ⟨(k : Int), 256, z⟩ = { d' with ops := d'.ops + 1 } ∧ tryE d ⟨(k : Int), 256, z⟩ = (if asP d' ⟨(k : Int), 256, z⟩ then 0 else -1) := by
  obtain ⟨e1, e2, g⟩ := h.gone hk z
  have hq := g.qt h
  refine ⟨_, g, ?_, ?_⟩
  · unfold tryD
    rw [if_pos e1, if_pos (show flushE (kwD d ⟨(k : Int), 256, z⟩) = 0 from e2)]
    exact (hq.read hk).2.1
  · unfold tryE
    rw [if_pos e1, if_pos (show flushE (kwD d ⟨(k : Int), 256, z⟩) = 0 from e2), if_pos (show readE (kfD d ⟨(k : Int), 256, z⟩) k = 0 ∨ readE (kfD d ⟨(k : Int), 256, z⟩) k = 20 from readE_qt hq hk)]
    rfl
theorem Qt.ops {N : Nat} {d : Dev} (h : Qt N d) (x : Nat) : Qt N { d with ops := x } := ⟨h.n, h.dead, h.armed, h.W⟩
/-- No write goes wrong. -/
structure Fine (N : Nat) (d : Dev) : Prop where
  qt : Qt N d
  drops : ∀ a, d.drops a = 0
  miss : ∀ a, d.miss a = []
/-- One write, where none goes wrong: of its own sector alone. -/
theorem kep_fine {N k j : Nat} (hk : k < N) (z : Nat → Nat) {d : Dev} (h : Fine N d) : kepE (j + 1) d ⟨(k : Int), 256, z⟩ = 0 ∧ Fine N (kepD (j + 1) d ⟨(k : Int), 256, z⟩) ∧ HasZ (kepD (j + 1) d ⟨(k : Int), 256, z⟩) k z ∧
    ∀ a, a ≠ k → (kepD (j + 1) d ⟨(k : Int), 256, z⟩).has a = d.has a ∧ (kepD (j + 1) d ⟨(k : Int), 256, z⟩).lost a = d.lost a := by
  obtain ⟨d', g, eD, eE⟩ := try_qt h.qt hk z
  have hq := g.qt h.qt
  rcases g.how with ⟨e0, _⟩ | ⟨t, r, _, e1, _⟩ | ⟨_, _, e1, e2, e3, e4⟩
  · have := h.drops k; omega
  · rw [h.miss k] at e1; cases e1
  · have hz : HasZ d' k z := ⟨by rw [e4, up_same], fun c _ => by rw [e3, up_same]⟩
    rw [if_pos ((asP_qt hq hk z).2 hz)] at eE
    show (if tryE d _ = -1 then kepE j (tryD d _) _ else tryE d _) = 0 ∧ Fine N (if tryE d _ = -1 then kepD j (tryD d _) _ else tryD d _) ∧ HasZ (if tryE d _ = -1 then kepD j (tryD d _) _ else tryD d _) k z ∧ ∀ a, a ≠ k → (if tryE d _ = -1 then kepD j (tryD d _) _ else tryD d _).has a = d.has a ∧ (if tryE d _ = -1 then kepD j (tryD d _) _ else tryD d _).lost a = d.lost a
    rw [eE, eD, if_neg (by decide), if_neg (by decide)]
    refine ⟨rfl, ⟨hq.ops _, fun a => by show d'.drops a = 0; rw [e1]; exact h.drops a, fun a => by show d'.miss a = []; rw [e2]; exact h.miss a⟩, hz, fun a ha => ?_⟩
    show d'.has a = d.has a ∧ d'.lost a = d.lost a
    rw [e3, e4, up_other _ _ ha, up_other _ _ ha]
    exact ⟨rfl, rfl⟩
/-! ### all of them, where none goes wrong -/
def putF (B : Nat → Nat) (i : Nat) : PutP := ⟨(i : Int), 256, fun _ => B i⟩
/-! ### those that are not as they should be -/
def badTo (B : Nat → Nat) (d : Dev) : Nat → Nat
  | 0 => 0
  | i + 1 => badTo B d i + (if asP d (putF B i) then 0 else 1)
theorem Fine.read {N : Nat} {d : Dev} (h : Fine N d) {k : Nat} (hk : k < N) : Fine N (readD d (k : Int)) ∧ (readD d (k : Int)).has = d.has ∧ (readD d (k : Int)).lost = d.lost := by
  rw [(h.qt.read hk).2.1]
  exact ⟨⟨h.qt.ops _, h.drops, h.miss⟩, rfl, rfl⟩
end Go.Proofs.YtlbdopcchoklhaaGreat
namespace Go.Proofs.YtlbdopcchoklhaaGreat
open Go.RowKit
set_option linter.unusedVariables false
set_option maxRecDepth 100000

theorem near_read (d : Dev) (a : Int) : Near d (readD d a) := by
  unfold readD
  split
  · exact ⟨rfl, Nat.le_refl _, Nat.le_succ _, fun a => Nat.le_add_right _ _, fun a => Nat.le_succ _⟩
  · exact Near.refl d
/-- How the tries stand: k of them are done, the device is e. -/
structure TryS (d : Dev) (P : PutP) (t k : Nat) (e : Dev) : Prop where
  E : kepE 4 d P = kepE (4 - k) e P
  D : kepD 4 d P = kepD (4 - k) e P
  lim : Lim e (t + 3 * k)
  limM : LimM e (t + 3 * k)
theorem TryS.step {d e : Dev} {P : PutP} {t k : Nat} (h : TryS d P t k e) (hk : k < 4) : kepE 4 d P = (if tryE e P = -1 then kepE (4 - (k + 1)) (tryD e P) P else tryE e P) ∧ kepD 4 d P = (if tryE e P = -1 then kepD (4 - (k + 1)) (tryD e P) P else tryD e P) := by
  rw [h.E, h.D, show 4 - k = (4 - (k + 1)) + 1 by omega]
  exact ⟨rfl, rfl⟩
theorem openE_three (d : Dev) (a : Int) : openE d a = 21 ∨ openE d a = 0 ∨ openE d a = 3 := by
  unfold openE
  split
  · exact Or.inl rfl
  · split
    · exact Or.inr (Or.inl rfl)
    · exact Or.inr (Or.inr rfl)
theorem readE_ne {d : Dev} {a : Int} : readE d a ≠ -1 := by
  unfold readE
  rcases openE_three d a with h | h | h <;> rw [h]
  · rw [if_neg (by decide)]; decide
  · rw [if_pos rfl]
    cases (lastW d.W a.toNat).isNone && d.lost a.toNat
    · rw [if_neg (by decide)]; decide
    · rw [if_pos rfl]; decide
  · rw [if_neg (by decide)]; decide
theorem writeE_ne {d : Dev} {a : Int} {n : Nat} : writeE d a n ≠ -1 := by
  unfold writeE
  rcases openE_three d a with h | h | h <;> rw [h]
  · rw [if_neg (by decide)]; decide
  · rw [if_pos rfl]
    by_cases q : n = 256
    · rw [if_pos q]
      cases diesB d
      · rw [if_neg (by decide)]; decide
      · rw [if_pos rfl]; decide
    · rw [if_neg q]; decide
  · rw [if_neg (by decide)]; decide
theorem flushE_ne {d : Dev} : flushE d ≠ -1 := by
  unfold flushE
  split <;> decide
section
variable {d e : Dev} {P : PutP} {t k : Nat}
theorem TryS.good (h : TryS d P t k e) (hk : k < 4) (q : writeE e P.pl P.n = 0) (q2 : flushE (kwD e P) = 0) (q3 : readE (kfD e P) P.pl = 0) (q4 : eqB (readL (kfD e P) P.pl) P.n (readZ (kfD e P) P.pl) P.z = true) : kepE 4 d P = 0 ∧ kepD 4 d P = krD e P := by
  obtain ⟨h1, h2⟩ := h.step hk
  have e3 : asP (kfD e P) P = true := by unfold asP; rw [q3, q4]; rfl
  have e1 : tryE e P = 0 := by unfold tryE; rw [if_pos q, if_pos q2, if_pos (Or.inl q3), if_pos e3]
  have e2 : tryD e P = krD e P := by unfold tryD; rw [if_pos q, if_pos q2]
  rw [h1, h2, e1, e2, if_neg (by decide), if_neg (by decide)]
  exact ⟨rfl, rfl⟩
end
/-! ### how much is done -/
theorem Lim.mono {d : Dev} {t t' : Nat} (h : Lim d t) (k : t ≤ t') : Lim d t' := ⟨Nat.le_trans h.ops k, Nat.le_trans h.W k, fun a => Nat.le_trans (h.drops a) (Nat.mul_le_mul_left _ k)⟩
theorem LimM.mono {d : Dev} {t t' : Nat} (h : LimM d t) (k : t ≤ t') : LimM d t' := fun a => Nat.le_trans (h a) k
theorem try_lim {d : Dev} {P : PutP} {t : Nat} (h : Lim d t) (hm : LimM d t) : Lim (tryD d P) (t + 3) ∧ LimM (tryD d P) (t + 3) := by
  have h1 := (near_write d P.pl P.n P.z).lim h hm
  have h2 := (near_flush (kwD d P)).lim h1.1 h1.2
  have h3 := (near_read (kfD d P) P.pl).lim h2.1 h2.2
  unfold tryD
  split
  · split
    · exact h3
    · exact ⟨h2.1.mono (by omega), h2.2.mono (by omega)⟩
  · exact ⟨h1.1.mono (by omega), h1.2.mono (by omega)⟩
theorem kep_lim {P : PutP} : ∀ (j : Nat) {d : Dev} {t : Nat}, Lim d t → LimM d t → Lim (kepD j d P) (t + 3 * j) ∧ LimM (kepD j d P) (t + 3 * j)
  | 0, _, _, h, hm => ⟨h, hm⟩
  | j + 1, d, t, h, hm => by
    have h1 := try_lim (P := P) h hm
    show Lim (if tryE d P = -1 then kepD j (tryD d P) P else tryD d P) _ ∧ LimM (if tryE d P = -1 then kepD j (tryD d P) P else tryD d P) _
    split
    · have h2 := kep_lim (P := P) j h1.1 h1.2
      exact ⟨h2.1.mono (by omega), h2.2.mono (by omega)⟩
    · exact ⟨h1.1.mono (by omega), h1.2.mono (by omega)⟩
theorem allTo_lim {f : Nat → PutP} {d : Dev} {t : Nat} (h : Lim d t) (hm : LimM d t) : ∀ k, Lim (allTo f d k).d (t + 13 * k) ∧ LimM (allTo f d k).d (t + 13 * k)
  | 0 => ⟨h, hm⟩
  | k + 1 => by
    have ih := allTo_lim (f := f) h hm k
    have h1 := kep_lim (P := f k) 4 ih.1 ih.2
    show Lim (if (allTo f d k).e = 0 then (⟨kepD 4 (allTo f d k).d (f k), kepE 4 (allTo f d k).d (f k)⟩ : AllS) else allTo f d k).d _ ∧ LimM (if (allTo f d k).e = 0 then (⟨kepD 4 (allTo f d k).d (f k), kepE 4 (allTo f d k).d (f k)⟩ : AllS) else allTo f d k).d _
    split
    · exact ⟨h1.1.mono (by omega), h1.2.mono (by omega)⟩
    · exact ⟨ih.1.mono (by omega), ih.2.mono (by omega)⟩
end Go.Proofs.YtlbdopcchoklhaaGreat
namespace Go.Proofs.YtlbdopcchoklhaaGreat
open Go.RowKit
set_option linter.unusedVariables false
set_option maxRecDepth 100000

/-! ### tto be read -/
/-- A write at a place: its bytes lie in one of the blocks of X. -/
structure PutIs (w : World) (X : Nat → Prop) (b o : Nat) (sb so sC : Nat) (P : PutP) : Prop where
  c0 : w.cell? ⟨b, o, none⟩ = some (.int .i64 P.pl)
  c1 : w.cell? ⟨b, o + 1, none⟩ = some (.slice (some ⟨sb, so, none⟩) P.n sC)
  row : RowV w (.slice (some ⟨sb, so, none⟩) P.n sC) P.n P.z
  X : X sb
  lt : sb < w.heap.size
/-- n of them, in blocks of X. -/
def PutsV (w : World) (X : Nat → Prop) (A : Option Addr) (n : Nat) (f : Nat → PutP) : Prop :=
  n ≤ 140737488351232 ∧ (0 < n → ∃ b o, A = some ⟨b, o, none⟩ ∧ X b ∧ ∀ c, c < n → ∃ sb so sC, PutIs w X b (o + c * 2) sb so sC (f c))
theorem RowV.ch' {w w' : World} {S : Nat → Prop} {b o n C : Nat} {z : Nat → Nat} (h : RowV w (.slice (some ⟨b, o, none⟩) n C) n z) (k : Ch S w w') (hb : ¬ S b) : RowV w' (.slice (some ⟨b, o, none⟩) n C) n z := by
  obtain ⟨A1, c1, e1, g1, g2⟩ := h
  injection e1 with e1 _ e2
  subst e1
  subst e2
  refine ⟨_, _, rfl, g1, fun h0 => ?_⟩
  obtain ⟨b', o', e, g3⟩ := g2 h0
  have e' := e
  injection e' with e'
  injection e' with e1 e2
  subst e1
  subst e2
  exact ⟨_, _, rfl, fun j hj => ⟨k.cell (g3 j hj).1 hb, (g3 j hj).2⟩⟩
theorem PutIs.ch {w w' : World} {X S : Nat → Prop} {b o sb so sC : Nat} {P : PutP} (h : PutIs w X b o sb so sC P) (k : Ch S w w') (hb : X b) (hX : ∀ i, X i → ¬ S i) : PutIs w' X b o sb so sC P :=
  ⟨k.cell h.c0 (hX b hb), k.cell h.c1 (hX b hb), h.row.ch' k (hX sb h.X), h.X, Nat.lt_of_lt_of_le h.lt k.size⟩
theorem PutsV.ch {w w' : World} {X S : Nat → Prop} {A : Option Addr} {n : Nat} {f : Nat → PutP} (h : PutsV w X A n f) (k : Ch S w w') (hX : ∀ i, X i → ¬ S i) : PutsV w' X A n f := by
  refine ⟨h.1, fun h0 => ?_⟩
  obtain ⟨b, o, hA, hb, hc⟩ := h.2 h0
  refine ⟨b, o, hA, hb, fun c hcn => ?_⟩
  obtain ⟨sb, so, sC, hp⟩ := hc c hcn
  exact ⟨sb, so, sC, hp.ch k hb hX⟩
theorem PutsV.gr {w w' : World} {X : Nat → Prop} {A : Option Addr} {n : Nat} {f : Nat → PutP} (h : PutsV w X A n f) (k : Ch (fun _ => False) w w') : PutsV w' X A n f := h.ch k (fun _ _ x => x)
theorem load_put {w : World} {b o : Nat} {u v : Value} (h0 : w.cell? ⟨b, o, none⟩ = some u) (h1 : w.cell? ⟨b, o + 1, none⟩ = some v) : (loadVar 35 ⟨b, o, none⟩).run Tryz.prog w = .ok (.agg #[u, v]) w :=
  run_loadVar_mid w b o _ [u, v] _ (fun j x hj => by
    have hj2 : j < 2 := (List.getElem?_eq_some_iff.1 hj).1
    match j, hj2 with
    | 0, _ => exact h0.trans hj
    | 1, _ => exact h1.trans hj) Tryz.underlying35 rfl (show _ = some 2 by kernel_rfl)

/-! ### of one's own -/
def putC (P : PutP) (v : Value) : List Value := [.int .i64 P.pl, v]
theorem info_put : (Tryz.prog.info? 35).map (fun i => (i.zero, i.size, i.bytes)) = some (some (.agg #[.int .i64 0, .slice none 0 0]), 2, 32) := by kernel_rfl
theorem under_puts : Tryz.prog.underlying 30 = some (.slice 35) := by kernel_rfl
theorem slice_put (w : World) (a b : Value) : (Instr.buildSlice 30 1 #[(0, .agg #[a, b])]).run Tryz.prog w = .ok (.slice (some ⟨w.heap.size, 0, none⟩) 1 1) (w.alloc (.cells #[a, b] 35)) := by
  obtain ⟨i0, hi, hz0, hz1, hz2⟩ := info_parts info_put
  refine run_buildSlice (P := Tryz.prog) w _ _ 1 _ _ i0 _ under_puts hi hz0 (by rw [hz1]; omega) (by rw [hz1]; omega) ?_
  rw [hz1]
  exact fill_one _ _ 2 rfl (by simp) (by omega)
theorem wpList_appP {ops : Array Oper} {rest : List Oper} {o : Oper} {a : Act} {Q : Exit → Act → World → Prop} (w : World) (hgd : o.guard = none) (s x : Operand)
    (ho : o.op = .call { callee := .builtin .append, args := #[s, x], argTypes := #[ 30, 30] }) (hty : o.type = 30) (sv xv v' : Value) (w' : World) (hs : a.eval s = sv) (hx : a.eval x = xv)
    (hrun : (Builtin.append_ #[ 30, 30] 30 #[sv, xv]).run Tryz.prog w = .ok v' w') (h : wpList Tryz.prog ops Q rest (a.put o.dst v') w') : wpList Tryz.prog ops Q (o :: rest) a w := by
  refine wpList_plain hgd fun _ hK => ?_
  unfold Oper.wp execOp
  simp only [ho, hty, resolve, invoke, builtin, Sem.run_bind, Sem.run_pure, Result.andThen_ok, List.map_toArray, List.map_cons, List.map_nil, hs, hx, hrun]
  exact hK _ _ h
/-- The cells of k writes, whose bytes are s. -/
def putL (f : Nat → PutP) (s : Nat → Value) (k : Nat) : List Value := (List.range k).flatMap fun c => [.int .i64 (f c).pl, s c]
theorem putL_len (f : Nat → PutP) (s : Nat → Value) : ∀ k, (putL f s k).length = k * 2
  | 0 => rfl
  | k + 1 => by
    have ih := putL_len f s k
    unfold putL at ih ⊢
    rw [List.range_succ, List.flatMap_append, List.length_append, ih]
    simp
    omega
theorem putL_snoc (f : Nat → PutP) (s : Nat → Value) (k : Nat) : putL f s (k + 1) = putL f s k ++ [.int .i64 (f k).pl, s k] := by
  unfold putL
  rw [List.range_succ, List.flatMap_append]
  rfl
theorem putL_get {f : Nat → PutP} {s : Nat → Value} {k c : Nat} (h : c < k) : (putL f s k)[c * 2]? = some (.int .i64 (f c).pl) ∧ (putL f s k)[c * 2 + 1]? = some (s c) := by
  induction k with
  | zero => omega
  | succ k ih =>
    rw [putL_snoc]
    by_cases q : c < k
    · obtain ⟨h1, h2⟩ := ih q
      rw [List.getElem?_append_left (by rw [putL_len]; omega), List.getElem?_append_left (by rw [putL_len]; omega)]
      exact ⟨h1, h2⟩
    · obtain rfl : c = k := by omega
      rw [List.getElem?_append_right (by rw [putL_len]; omega), List.getElem?_append_right (by rw [putL_len]; omega), putL_len]
      simp
theorem putL_congr {f : Nat → PutP} {s s' : Nat → Value} {k : Nat} (h : ∀ c, c < k → s c = s' c) : putL f s k = putL f s' k := by
  induction k with
  | zero => rfl
  | succ k ih => rw [putL_snoc, putL_snoc, ih (fun c hc => h c (by omega)), h k (by omega)]
/-- Bytes of one's own: a slice of a block of bytes, made behind w. -/
structure OwnB (w wr : World) (v : Value) (n : Nat) (z : Nat → Nat) (sb so sC : Nat) : Prop where
  eq : v = .slice (some ⟨sb, so, none⟩) n sC
  row : RowV wr (.slice (some ⟨sb, so, none⟩) n sC) n z
  blk : ∃ c, wr.heap[sb]? = some (.cells c /-t-/5 (0, 0))
  lo : w.heap.size ≤ sb
theorem OwnB.ch {S : Nat → Prop} {w wr w' : World} {v : Value} {n sb so sC : Nat} {z : Nat → Nat} (h : OwnB w wr v n z sb so sC) (k : Ch S wr w') (hS : ¬ S sb) : OwnB w w' v n z sb so sC := by
  obtain ⟨c, hc⟩ := h.blk
  exact ⟨h.eq, h.row.ch' k hS, ⟨c, (k.block sb (blk_lt hc) hS).trans hc⟩, h.lo⟩
theorem own_gr {w w' : World} {base : Nat} {e : TypeId} {sz : Nat} {v : Value} {n : Nat} {xs : List Value} (h : w.ownsRow base e sz v n xs) (k : Ch (fun _ => False) w w') : w'.ownsRow base e sz v n xs :=
  own_of h (fun i hi => by obtain ⟨_, c, hc⟩ := own_at h hi; exact k.block i (blk_lt hc) (fun f => f))
/-- k writes that a call has gathered since w, one behind the other. -/
structure PutsO (w wr : World) (v : Value) (k : Nat) (f : Nat → PutP) (s : Nat → Value) : Prop where
  own : wr.ownsRow w.heap.size 35 2 v k (putL f s k)
  rows : ∀ c, c < k → ∃ sb so sC, OwnB w wr (s c) (f c).n (f c).z sb so sC
  ch : Ch (fun _ => False) w wr
theorem PutsO.start (w : World) (f : Nat → PutP) (s : Nat → Value) : PutsO w w (.slice none 0 0) 0 f s := ⟨World.ownsRow_nil w w.heap.size _ 2, fun c hc => absurd hc (Nat.not_lt_zero c), Ch.refl _ w⟩
theorem PutsO.gr {w wr w' : World} {v : Value} {k : Nat} {f : Nat → PutP} {s : Nat → Value} (h : PutsO w wr v k f s) (c : Ch (fun _ => False) wr w') : PutsO w w' v k f s :=
  ⟨own_gr h.own c, fun i hi => by obtain ⟨sb, so, sC, q⟩ := h.rows i hi; exact ⟨sb, so, sC, q.ch c (fun f => f)⟩, h.ch.trans c⟩
theorem PutsO.len {w wr : World} {v : Value} {k : Nat} {f : Nat → PutP} {s : Nat → Value} (h : PutsO w wr v k f s) : ∃ A C, v = .slice A k C := by
  rcases h.own.2 with ⟨rfl, h0⟩ | ⟨g, cap, cur, rfl, _⟩
  · exact ⟨none, 0, by rw [h0]⟩
  · exact ⟨_, _, rfl⟩
theorem PutsO.app {w wr : World} {v : Value} {k sb so sC : Nat} {f : Nat → PutP} {s : Nat → Value} {u : Value} (h : PutsO w wr v k f s) (hu : OwnB w wr u (f k).n (f k).z sb so sC) (hk : k ≤ 1048576) :
    ∃ g cap w2, (Builtin.append_ #[ 30, 30] 30 #[v, .slice (some ⟨wr.heap.size, 0, none⟩) 1 1]).run Tryz.prog (wr.alloc (.cells #[.int .i64 (f k).pl, u] 35)) = .ok (.slice (some ⟨g, 0, none⟩) (k + 1) cap) w2 ∧ PutsO w w2 (.slice (some ⟨g, 0, none⟩) (k + 1) cap) (k + 1) f (up s k u) := by
  obtain ⟨i0, hi, hz0, hz1, hz2⟩ := info_parts info_put
  have k1 : Ch (fun _ => False) wr (wr.alloc (.cells #[.int .i64 (f k).pl, u] 35)) := (Ch.refl _ wr).alloc _ _
  have hu1 := hu.ch k1 (fun x => x)
  have one : u.oneCell' = true := by rw [hu.eq]; rfl
  have es : putL f s k = putL f (up s k u) k := putL_congr fun c hc => (up_other s u (by omega)).symm
  obtain ⟨g, cap, w2, hr, h2, h3, h4, _⟩ := run_append_lies (P := Tryz.prog) (wr.alloc (.cells #[.int .i64 (f k).pl, u] 35)) 30 30 w.heap.size 35 i0 _ 2 32 under_puts hi hz0 hz1 hz2 rfl (by omega) v k (putL f s k) (own_gr h.own k1) ⟨wr.heap.size, 0, none⟩ 1 1 [.int .i64 (f k).pl, u] rfl (fun j x hx => by
    rw [add_pl, blk_cell (heap_alloc_new wr _), Nat.zero_add]
    show ([Value.int .i64 (f k).pl, u].toArray)[j]? = some x
    rw [List.getElem?_toArray]
    exact hx) (fun x hx => by
      rcases List.mem_cons.1 hx with rfl | hx
      · rfl
      · rw [List.mem_singleton.1 hx]; exact one) (by omega) (by unfold maxLen; omega) (by omega) (Nat.le_trans h.ch.size k1.size) _ rfl
  have e2 : putL f s k ++ [.int .i64 (f k).pl, u] = putL f (up s k u) (k + 1) := by rw [putL_snoc, ← es, up_same]
  rw [e2] at h2
  have k2 : Ch (fun i => v.ownBlock = some i) (wr.alloc (.cells #[.int .i64 (f k).pl, u] 35)) w2 := (Ch.refl _ _).grown h3 (fun i hi => Or.inl hi)
  have off : ∀ i c, (wr.alloc (.cells #[.int .i64 (f k).pl, u] 35)).heap[i]? = some (.cells c /-t-/5 (0, 0)) → ¬ v.ownBlock = some i := fun i c hc e => by
    obtain ⟨_, c2, hc2⟩ := own_at (own_gr h.own k1) e
    exact cells_ne hc2 hc (by decide) rfl
  refine ⟨g, cap, w2, hr, h2, fun c hc => ?_, (h.ch.trans k1).new (k2.mono fun i _ hi => (own_at h.own hi).1)⟩
  by_cases q : c = k
  · subst q
    obtain ⟨cc, hcc⟩ := hu1.blk
    exact ⟨sb, so, sC, by rw [up_same]; exact hu1.ch k2 (off sb cc hcc)⟩
  · obtain ⟨b, o, C, r⟩ := h.rows c (by omega)
    have r1 := r.ch k1 (fun x => x)
    obtain ⟨cc, hcc⟩ := r1.blk
    exact ⟨b, o, C, by rw [up_other _ _ q]; exact r1.ch k2 (off b cc hcc)⟩
/-- They may be read. -/
theorem PutsO.read {w wr : World} {A : Option Addr} {C k : Nat} {f : Nat → PutP} {s : Nat → Value} (h : PutsO w wr (.slice A k C) k f s) (hk : k ≤ 140737488351232) : PutsV wr (fun i => w.heap.size ≤ i ∧ i < wr.heap.size) A k f := by
  refine ⟨hk, fun h0 => ?_⟩
  rcases h.own.2 with ⟨_, q⟩ | ⟨g, cap, cur, e, hb, hg, _⟩
  · omega
  · injection e with e _ _
    subst e
    refine ⟨g, 0, rfl, ⟨hb, blk_lt hg⟩, fun c hc => ?_⟩
    obtain ⟨sb, so, sC, r⟩ := h.rows c hc
    obtain ⟨cc, hcc⟩ := r.blk
    obtain ⟨g0, g1⟩ := putL_get (f := f) (s := s) hc
    have c0 := World.ownsRow.cells h.own (g := g) rfl _ _ g0
    have c1 := World.ownsRow.cells h.own (g := g) rfl _ _ g1
    rw [add_pl] at c0 c1
    exact ⟨sb, so, sC, c0, by rw [← r.eq]; exact c1, r.row, ⟨r.lo, blk_lt hcc⟩, blk_lt hcc⟩
end Go.Proofs.YtlbdopcchoklhaaGreat
