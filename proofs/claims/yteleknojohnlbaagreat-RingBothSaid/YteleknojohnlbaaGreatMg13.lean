/-
  keep in plain words: a write that is read back, some of them, and those that are not as they should be; what comes of it where few writes go wrong. keep in plain words: how the tries of one write stand.
-/
import Derived.Test.YteleknojohnlbaaGreatMg12
namespace Go.Proofs.YteleknojohnlbaaGreat
open Go.RowKit
set_option linter.unusedVariables false
set_option maxRecDepth 100000

/-! ### one write, tried up to k times -/
structure PutP where
  pl : Int
  n : Nat
  z : Nat → Nat
def kwD (d : Dev) (p : PutP) : Dev := writeD d p.pl p.n p.z
def kfD (d : Dev) (p : PutP) : Dev := flushD (kwD d p)
def krD (d : Dev) (p : PutP) : Dev := readD (kfD d p) p.pl
def asP (d : Dev) (p : PutP) : Bool := decide (readE d p.pl = 0) && eqB (readL d p.pl) p.n (readZ d p.pl) p.z
/-- What a try tells: -1, if it is to be gone on. -/
def tryE (d : Dev) (p : PutP) : Int := if writeE d p.pl p.n = 0 then (if flushE (kwD d p) = 0 then (if readE (kfD d p) p.pl = 0 ∨ readE (kfD d p) p.pl = 20 then (if asP (kfD d p) p then 0 else -1) else readE (kfD d p) p.pl) else flushE (kwD d p)) else writeE d p.pl p.n
def tryD (d : Dev) (p : PutP) : Dev := if writeE d p.pl p.n = 0 then (if flushE (kwD d p) = 0 then krD d p else kfD d p) else kwD d p
def kepE : Nat → Dev → PutP → Int
  | 0, _, _ => 22
  | k + 1, d, p => if tryE d p = -1 then kepE k (tryD d p) p else tryE d p
def kepD : Nat → Dev → PutP → Dev
  | 0, d, _ => d
  | k + 1, d, p => if tryE d p = -1 then kepD k (tryD d p) p else tryD d p
/-! ### some, in order -/
structure AllS where
  d : Dev
  e : Int
def allTo (F : Nat → PutP) (d : Dev) : Nat → AllS
  | 0 => ⟨d, 0⟩
  | i + 1 => if (allTo F d i).e = 0 then ⟨kepD 4 (allTo F d i).d (F i), kepE 4 (allTo F d i).d (F i)⟩ else allTo F d i
theorem allTo_stop {F : Nat → PutP} {d : Dev} {i : Nat} (h : (allTo F d i).e ≠ 0) : ∀ n, i ≤ n → allTo F d n = allTo F d i
  | 0, hn => by obtain rfl : i = 0 := by omega
                rfl
  | n + 1, hn => by
    by_cases q : i = n + 1
    · rw [q]
    · have ih := allTo_stop h n (by omega)
      show (if (allTo F d n).e = 0 then _ else allTo F d n) = _
      rw [ih, if_neg h]
structure MendS where
  d : Dev
  e : Int
  c : Nat
def mendTo (F : Nat → PutP) (d : Dev) : Nat → MendS
  | 0 => ⟨d, 0, 0⟩
  | i + 1 =>
    let s := mendTo F d i
    let r := readD s.d (F i).pl
    if s.e = 0 then (if readE s.d (F i).pl = 0 ∨ readE s.d (F i).pl = 20 then (if asP s.d (F i) then ⟨r, 0, s.c⟩ else ⟨kepD 4 r (F i), kepE 4 r (F i), if kepE 4 r (F i) = 0 then s.c + 1 else s.c⟩) else ⟨r, readE s.d (F i).pl, s.c⟩) else s
theorem mendTo_succ (F : Nat → PutP) (d : Dev) (i : Nat) : mendTo F d (i + 1) = (if (mendTo F d i).e = 0 then (if readE (mendTo F d i).d (F i).pl = 0 ∨ readE (mendTo F d i).d (F i).pl = 20 then (if asP (mendTo F d i).d (F i) then ⟨readD (mendTo F d i).d (F i).pl, 0, (mendTo F d i).c⟩ else ⟨kepD 4 (readD (mendTo F d i).d (F i).pl) (F i), kepE 4 (readD (mendTo F d i).d (F i).pl) (F i), if kepE 4 (readD (mendTo F d i).d (F i).pl) (F i) = 0 then (mendTo F d i).c + 1 else (mendTo F d i).c⟩) else ⟨readD (mendTo F d i).d (F i).pl, readE (mendTo F d i).d (F i).pl, (mendTo F d i).c⟩) else mendTo F d i) := rfl
theorem mendTo_stop {F : Nat → PutP} {d : Dev} {i : Nat} (h : (mendTo F d i).e ≠ 0) : ∀ n, i ≤ n → mendTo F d n = mendTo F d i
  | 0, hn => by obtain rfl : i = 0 := by omega
                rfl
  | n + 1, hn => by
    by_cases q : i = n + 1
    · rw [q]
    · have ih := mendTo_stop h n (by omega)
      rw [mendTo_succ, ih, if_neg h]

/-! ### a device that nothing waits on, and that does not die -/
structure Qt (N : Nat) (d : Dev) : Prop where
  n : d.n = N
  dead : d.dead = false
  armed : d.armed = false
  W : d.W = []
section
variable {N : Nat} {d : Dev}
theorem Qt.open' (h : Qt N d) {k : Nat} (hk : k < N) : openE d (k : Int) = 0 := by
  have hb : hasB d (k : Int) = true := decide_eq_true (by rw [h.n]; omega)
  unfold openE
  rw [h.dead, hb]
  rfl
theorem Qt.dies (h : Qt N d) : diesB d = false ∧ diesD d = d := by
  unfold diesB diesD
  rw [h.armed]
  exact ⟨rfl, rfl⟩
theorem Qt.read (h : Qt N d) {k : Nat} (hk : k < N) : readE d (k : Int) = (if d.lost k then 20 else 0) ∧ readD d (k : Int) = { d with ops := d.ops + 1 } ∧ readZ d (k : Int) = d.has k := by
  unfold readE readD readZ
  rw [h.open' hk, h.W, lastW_nil, Int.toNat_natCast]
  refine ⟨?_, rfl, rfl⟩
  rw [if_pos rfl]
  rfl
/-- What a write and a flush leave. -/
structure Gone (d d' : Dev) (k : Nat) (z : Nat → Nat) : Prop where
  more : d'.n = d.n ∧ d'.dead = d.dead ∧ d'.armed = d.armed ∧ d'.W = []
  how : (0 < d.drops k ∧ d'.drops = up d.drops k (d.drops k - 1) ∧ d'.miss = d.miss ∧ d'.has = d.has ∧ d'.lost = d.lost) ∨
    (∃ t r, ¬ 0 < d.drops k ∧ d.miss k = t :: r ∧ d'.drops = d.drops ∧ d'.miss = up d.miss k r ∧ d'.has = up d.has t z ∧ d'.lost = up d.lost t false) ∨
    (¬ 0 < d.drops k ∧ d.miss k = [] ∧ d'.drops = d.drops ∧ d'.miss = d.miss ∧ d'.has = up d.has k z ∧ d'.lost = up d.lost k false)
theorem Qt.gone (h : Qt N d) {k : Nat} (hk : k < N) (z : Nat → Nat) : writeE d (k : Int) 256 = 0 ∧ flushE (writeD d (k : Int) 256 z) = 0 ∧ Gone d (flushD (writeD d (k : Int) 256 z)) k z := by
  have ho := h.open' hk
  obtain ⟨hb, hd⟩ := h.dies
  have hw1 : wr1 d = { d with ops := d.ops + 1 } := by unfold wr1; rw [hd]
  have e1 : writeE d (k : Int) 256 = 0 := by unfold writeE; rw [ho, hb]; rfl
  refine ⟨e1, ?_⟩
  by_cases q : 0 < d.drops k
  · have e2 : writeD d (k : Int) 256 z = { d with ops := d.ops + 1, drops := up d.drops k (d.drops k - 1) } := by
      unfold writeD
      rw [if_pos ⟨ho, rfl⟩, hb, hw1, Int.toNat_natCast]
      unfold aimC aimD
      rw [if_pos (show 0 < d.drops k from q)]
      simp [q]
    rw [e2]
    have hq : Qt N { d with ops := d.ops + 1, drops := up d.drops k (d.drops k - 1) } := ⟨h.n, h.dead, h.armed, h.W⟩
    have e3 : flushD { d with ops := d.ops + 1, drops := up d.drops k (d.drops k - 1) } = { d with ops := d.ops + 1, drops := up d.drops k (d.drops k - 1), W := [] } := by
      unfold flushD
      rw [hq.dies.1, hq.dies.2]
      simp only [h.dead, h.W]
      rfl
    refine ⟨by unfold flushE; rw [hq.dies.1]; simp [h.dead], ?_⟩
    rw [e3]
    exact ⟨⟨rfl, rfl, rfl, rfl⟩, Or.inl ⟨q, rfl, rfl, rfl, rfl⟩⟩
  · cases hm : d.miss k with
    | nil =>
      have e2 : writeD d (k : Int) 256 z = { d with ops := d.ops + 1, W := [⟨k, z⟩] } := by
        unfold writeD
        rw [if_pos ⟨ho, rfl⟩, hb, hw1, Int.toNat_natCast]
        unfold aimC aimD aimT
        simp [q, hm, h.W]
      rw [e2]
      have hq : diesB { d with ops := d.ops + 1, W := [⟨k, z⟩] } = false ∧ diesD { d with ops := d.ops + 1, W := [⟨k, z⟩] } = { d with ops := d.ops + 1, W := [⟨k, z⟩] } := by
        unfold diesB diesD
        simp only [h.armed]
        exact ⟨rfl, rfl⟩
      have e3 : flushD { d with ops := d.ops + 1, W := [⟨k, z⟩] } = { d with ops := d.ops + 1, W := [], has := up d.has k z, lost := up d.lost k false } := by
        unfold flushD
        rw [hq.1, hq.2]
        simp only [h.dead]
        rfl
      refine ⟨by unfold flushE; rw [hq.1]; simp [h.dead], ?_⟩
      rw [e3]
      exact ⟨⟨rfl, rfl, rfl, rfl⟩, Or.inr (Or.inr ⟨q, hm, rfl, rfl, rfl, rfl⟩)⟩
    | cons t r =>
      have e2 : writeD d (k : Int) 256 z = { d with ops := d.ops + 1, miss := up d.miss k r, W := [⟨t, z⟩] } := by
        unfold writeD
        rw [if_pos ⟨ho, rfl⟩, hb, hw1, Int.toNat_natCast]
        unfold aimC aimD aimT
        simp [q, hm, h.W]
      rw [e2]
      have hq : diesB { d with ops := d.ops + 1, miss := up d.miss k r, W := [⟨t, z⟩] } = false ∧ diesD { d with ops := d.ops + 1, miss := up d.miss k r, W := [⟨t, z⟩] } = { d with ops := d.ops + 1, miss := up d.miss k r, W := [⟨t, z⟩] } := by
        unfold diesB diesD
        simp only [h.armed]
        exact ⟨rfl, rfl⟩
      have e3 : flushD { d with ops := d.ops + 1, miss := up d.miss k r, W := [⟨t, z⟩] } = { d with ops := d.ops + 1, miss := up d.miss k r, W := [], has := up d.has t z, lost := up d.lost t false } := by
        unfold flushD
        rw [hq.1, hq.2]
        simp only [h.dead]
        rfl
      refine ⟨by unfold flushE; rw [hq.1]; simp [h.dead], ?_⟩
      rw [e3]
      exact ⟨⟨rfl, rfl, rfl, rfl⟩, Or.inr (Or.inl ⟨t, r, q, hm, rfl, rfl, rfl, rfl⟩)⟩
theorem Gone.qt {d' : Dev} {k : Nat} {z : Nat → Nat} (h : Qt N d) (g : Gone d d' k z) : Qt N d' := ⟨g.more.1.trans h.n, g.more.2.1.trans h.dead, g.more.2.2.1.trans h.armed, g.more.2.2.2⟩
end
/-- Sectors that are there, and have what is told of them. -/
def HasZ (d : Dev) (k : Nat) (z : Nat → Nat) : Prop := d.lost k = false ∧ ∀ c, c < 256 → d.has k c = z c
theorem asP_qt {N : Nat} {d : Dev} (h : Qt N d) {k : Nat} (hk : k < N) (z : Nat → Nat) : asP d ⟨(k : Int), 256, z⟩ = true ↔ HasZ d k z := by
  obtain ⟨e1, _, e3⟩ := h.read hk
  unfold asP readL HasZ
  simp only
  rw [e1, e3]
  cases d.lost k
  · rw [if_neg (by decide), if_pos rfl]
    unfold eqB
    simp
  · simp
theorem readE_qt {N : Nat} {d : Dev} (h : Qt N d) {k : Nat} (hk : k < N) : readE d (k : Int) = 0 ∨ readE d (k : Int) = 20 := by
  obtain ⟨e1, _, _⟩ := h.read hk
  rw [e1]
  cases d.lost k
  · exact Or.inl rfl
  · exact Or.inr rfl
/-- A try, plainly. -/
theorem try_qt {N : Nat} {d : Dev} (h : Qt N d) {k : Nat} (hk : k < N) (z : Nat → Nat) : ∃ d', Gone d d' k z ∧ tryD d ⟨(k : Int), 256, z⟩ = { d' with ops := d'.ops + 1 } ∧ tryE d ⟨(k : Int), 256, z⟩ = (if asP d' ⟨(k : Int), 256, z⟩ then 0 else -1) := by
  obtain ⟨e1, e2, g⟩ := h.gone hk z
  have hq := g.qt h
  refine ⟨_, g, ?_, ?_⟩
  · unfold tryD
    rw [if_pos e1, if_pos (show flushE (kwD d ⟨(k : Int), 256, z⟩) = 0 from e2)]
    exact (hq.read hk).2.1
  · unfold tryE
    rw [if_pos e1, if_pos (show flushE (kwD d ⟨(k : Int), 256, z⟩) = 0 from e2), if_pos (show readE (kfD d ⟨(k : Int), 256, z⟩) k = 0 ∨ readE (kfD d ⟨(k : Int), 256, z⟩) k = 20 from readE_qt hq hk)]
    rfl
theorem Qt.ops {N : Nat} {d : Dev} (h : Qt N d) (x : Nat) : Qt N { d with ops := x } := ⟨h.n, h.dead, h.armed, h.W⟩
/-- Where fewer writes go wrong than there are tries it has what was to be written. -/
theorem kep_puts {N k : Nat} (hk : k < N) (z : Nat → Nat) : ∀ (j : Nat) (d : Dev), Qt N d → (∀ a, d.lost a = false) → d.drops k + (d.miss k).length < j →
    kepE j d ⟨(k : Int), 256, z⟩ = 0 ∧ Qt N (kepD j d ⟨(k : Int), 256, z⟩) ∧ HasZ (kepD j d ⟨(k : Int), 256, z⟩) k z
  | 0, d, _, _, hw => by omega
  | j + 1, d, h, hl, hw => by
    obtain ⟨d', g, eD, eE⟩ := try_qt h hk z
    have hq := g.qt h
    show (if tryE d _ = -1 then kepE j (tryD d _) _ else tryE d _) = 0 ∧ Qt N (if tryE d _ = -1 then kepD j (tryD d _) _ else tryD d _) ∧ HasZ (if tryE d _ = -1 then kepD j (tryD d _) _ else tryD d _) k z
    by_cases q : asP d' ⟨(k : Int), 256, z⟩ = true
    · rw [if_pos q] at eE
      rw [eE, eD, if_neg (by decide), if_neg (by decide)]
      exact ⟨rfl, hq.ops _, (asP_qt hq hk z).1 q⟩
    · rw [if_neg q] at eE
      rw [eE, eD, if_pos rfl, if_pos rfl]
      have hno : ¬ HasZ d' k z := fun x => q ((asP_qt hq hk z).2 x)
      have hl' : ∀ a, d'.lost a = false := fun a => by
        rcases g.how with ⟨_, _, _, _, e⟩ | ⟨t, r, _, _, _, _, _, e⟩ | ⟨_, _, _, _, _, e⟩ <;> rw [e]
        · exact hl a
        · unfold up; split
          · rfl
          · exact hl a
        · unfold up; split
          · rfl
          · exact hl a
      refine kep_puts hk z j { d' with ops := d'.ops + 1 } (hq.ops _) hl' ?_
      show d'.drops k + (d'.miss k).length < j
      rcases g.how with ⟨e0, e1, e2, _, _⟩ | ⟨t, r, _, e1, e2, e3, _, _⟩ | ⟨_, _, _, _, e4, e5⟩
      · rw [e1, e2, up_same]; omega
      · rw [e2, e3, up_same]
        rw [e1, List.length_cons] at hw
        omega
      · exact absurd ⟨by rw [e5, up_same], fun c _ => by rw [e4, up_same]⟩ hno
#print axioms kep_puts
theorem crash_qt {N : Nat} {d : Dev} (h : Qt N d) (m : Nat) (q : Nat → Bool) : crashD d m q = d := by
  unfold crashD
  rw [h.W]
  have e : crTo d m q ([] : List Wt).length = d := rfl
  rw [e]
  obtain ⟨n, has, lost, drops, miss, W, dead, armed, left, ops⟩ := d
  have h1 : W = [] := h.W
  have h2 : dead = false := h.dead
  have h3 : armed = false := h.armed
  rw [h1, h2, h3]
/-- No write goes wrong. -/
structure Fine (N : Nat) (d : Dev) : Prop where
  qt : Qt N d
  drops : ∀ a, d.drops a = 0
  miss : ∀ a, d.miss a = []
/-- One write, where none goes wrong: of its own sector alone. -/
theorem kep_fine {N k j : Nat} (hk : k < N) (z : Nat → Nat) {d : Dev} (h : Fine N d) : kepE (j + 1) d ⟨(k : Int), 256, z⟩ = 0 ∧ Fine N (kepD (j + 1) d ⟨(k : Int), 256, z⟩) ∧ HasZ (kepD (j + 1) d ⟨(k : Int), 256, z⟩) k z ∧
    ∀ a, a ≠ k → (kepD (j + 1) d ⟨(k : Int), 256, z⟩).has a = d.has a ∧ (kepD (j + 1) d ⟨(k : Int), 256, z⟩).lost a = d.lost a := by
  obtain ⟨d', g, eD, eE⟩ := try_qt h.qt hk z
  have hq := g.qt h.qt
  rcases g.how with ⟨e0, _⟩ | ⟨t, r, _, e1, _⟩ | ⟨_, _, e1, e2, e3, e4⟩
  · have := h.drops k; omega
  · rw [h.miss k] at e1; cases e1
  · have hz : HasZ d' k z := ⟨by rw [e4, up_same], fun c _ => by rw [e3, up_same]⟩
    rw [if_pos ((asP_qt hq hk z).2 hz)] at eE
    show (if tryE d _ = -1 then kepE j (tryD d _) _ else tryE d _) = 0 ∧ Fine N (if tryE d _ = -1 then kepD j (tryD d _) _ else tryD d _) ∧ HasZ (if tryE d _ = -1 then kepD j (tryD d _) _ else tryD d _) k z ∧ ∀ a, a ≠ k → (if tryE d _ = -1 then kepD j (tryD d _) _ else tryD d _).has a = d.has a ∧ (if tryE d _ = -1 then kepD j (tryD d _) _ else tryD d _).lost a = d.lost a
    rw [eE, eD, if_neg (by decide), if_neg (by decide)]
    refine ⟨rfl, ⟨hq.ops _, fun a => by show d'.drops a = 0; rw [e1]; exact h.drops a, fun a => by show d'.miss a = []; rw [e2]; exact h.miss a⟩, hz, fun a ha => ?_⟩
    show d'.has a = d.has a ∧ d'.lost a = d.lost a
    rw [e3, e4, up_other _ _ ha, up_other _ _ ha]
    exact ⟨rfl, rfl⟩
#print axioms kep_fine
/-! ### all of them, where none goes wrong -/
def putF (B : Nat → Nat) (i : Nat) : PutP := ⟨(i : Int), 256, fun _ => B i⟩
theorem all_fine {N : Nat} (B : Nat → Nat) {d : Dev} (h : Fine N d) : ∀ i, i ≤ N → (allTo (putF B) d i).e = 0 ∧ Fine N (allTo (putF B) d i).d ∧ ∀ a, a < i → HasZ (allTo (putF B) d i).d a (fun _ => B a)
  | 0, _ => ⟨rfl, h, fun a ha => absurd ha (Nat.not_lt_zero a)⟩
  | i + 1, hi => by
    obtain ⟨e1, e2, e3⟩ := all_fine B h i (by omega)
    obtain ⟨f1, f2, f3, f4⟩ := kep_fine (k := i) (j := 3) (by omega) (fun _ => B i) e2
    have e : allTo (putF B) d (i + 1) = ⟨kepD 4 (allTo (putF B) d i).d (putF B i), kepE 4 (allTo (putF B) d i).d (putF B i)⟩ := by
      show (if (allTo (putF B) d i).e = 0 then _ else _) = _
      rw [if_pos e1]
    rw [e]
    refine ⟨f1, f2, fun a ha => ?_⟩
    by_cases q : a = i
    · subst q; exact f3
    · obtain ⟨g1, g2⟩ := f4 a q
      obtain ⟨g3, g4⟩ := e3 a (by omega)
      exact ⟨g2.trans g3, fun c hc => (congrFun g1 c).trans (g4 c hc)⟩
/-! ### those that are not as they should be -/
def badTo (B : Nat → Nat) (d : Dev) : Nat → Nat
  | 0 => 0
  | i + 1 => badTo B d i + (if asP d (putF B i) then 0 else 1)
theorem Fine.read {N : Nat} {d : Dev} (h : Fine N d) {k : Nat} (hk : k < N) : Fine N (readD d (k : Int)) ∧ (readD d (k : Int)).has = d.has ∧ (readD d (k : Int)).lost = d.lost := by
  rw [(h.qt.read hk).2.1]
  exact ⟨⟨h.qt.ops _, h.drops, h.miss⟩, rfl, rfl⟩
theorem asP_eq {N : Nat} {d e : Dev} (h : Qt N d) (k : Qt N e) {i : Nat} (hi : i < N) (B : Nat → Nat) (e1 : e.has i = d.has i) (e2 : e.lost i = d.lost i) : asP e (putF B i) = asP d (putF B i) := by
  have h1 := asP_qt h hi (fun _ => B i)
  have h2 := asP_qt k hi (fun _ => B i)
  have h3 : HasZ e i (fun _ => B i) ↔ HasZ d i (fun _ => B i) := by unfold HasZ; rw [e1, e2]
  have h4 := h2.trans (h3.trans h1.symm)
  show asP e ⟨(i : Int), 256, fun _ => B i⟩ = asP d ⟨(i : Int), 256, fun _ => B i⟩
  cases q : asP e ⟨(i : Int), 256, fun _ => B i⟩ <;> cases r : asP d ⟨(i : Int), 256, fun _ => B i⟩ <;> simp_all
theorem mend_fine {N : Nat} (B : Nat → Nat) {d : Dev} (h : Fine N d) : ∀ i, i ≤ N → (mendTo (putF B) d i).e = 0 ∧ (mendTo (putF B) d i).c = badTo B d i ∧ Fine N (mendTo (putF B) d i).d ∧ (∀ a, a < i → HasZ (mendTo (putF B) d i).d a (fun _ => B a)) ∧ ∀ a, i ≤ a → (mendTo (putF B) d i).d.has a = d.has a ∧ (mendTo (putF B) d i).d.lost a = d.lost a
  | 0, _ => ⟨rfl, rfl, h, fun a ha => absurd ha (Nat.not_lt_zero a), fun _ _ => ⟨rfl, rfl⟩⟩
  | i + 1, hi => by
    obtain ⟨e1, e2, e3, e4, e5⟩ := mend_fine B h i (by omega)
    obtain ⟨r1, r2, r3⟩ := e3.read (k := i) (by omega)
    obtain ⟨s1, s2⟩ := e5 i (Nat.le_refl i)
    have ha : asP (mendTo (putF B) d i).d (putF B i) = asP d (putF B i) := asP_eq h.qt e3.qt (by omega) B s1 s2
    have hr : readE (mendTo (putF B) d i).d (putF B i).pl = 0 ∨ readE (mendTo (putF B) d i).d (putF B i).pl = 20 := readE_qt e3.qt (by omega)
    rw [mendTo_succ, if_pos e1, if_pos hr]
    show _ ∧ _ = badTo B d i + _ ∧ _
    by_cases q : asP d (putF B i) = true
    · rw [ha, if_pos q, if_pos q]
      refine ⟨rfl, by show (mendTo (putF B) d i).c = _; rw [e2, Nat.add_zero], r1, fun a hai => ?_, fun a hai => ?_⟩
      · show HasZ (readD _ _) a _
        unfold HasZ
        rw [show (readD (mendTo (putF B) d i).d (putF B i).pl).lost = (mendTo (putF B) d i).d.lost from r3, show (readD (mendTo (putF B) d i).d (putF B i).pl).has = (mendTo (putF B) d i).d.has from r2]
        by_cases w : a = i
        · subst w
          exact (asP_qt e3.qt (by omega) _).1 (ha.trans q)
        · exact e4 a (by omega)
      · show (readD _ _).has a = _ ∧ (readD _ _).lost a = _
        rw [show (readD (mendTo (putF B) d i).d (putF B i).pl).lost = (mendTo (putF B) d i).d.lost from r3, show (readD (mendTo (putF B) d i).d (putF B i).pl).has = (mendTo (putF B) d i).d.has from r2]
        exact e5 a (by omega)
    · obtain ⟨f1, f2, f3, f4⟩ := kep_fine (k := i) (j := 3) (by omega) (fun _ => B i) r1
      rw [ha, if_neg q, if_neg q]
      refine ⟨f1, ?_, f2, fun a hai => ?_, fun a hai => ?_⟩
      · exact (if_pos f1).trans (by rw [e2])
      · by_cases w : a = i
        · subst w; exact f3
        · obtain ⟨g1, g2⟩ := f4 a w
          obtain ⟨g3, g4⟩ := e4 a (by omega)
          exact ⟨g2.trans ((congrFun r3 a).trans g3), fun c hc => (congrFun (g1.trans (congrFun r2 a)) c).trans (g4 c hc)⟩
      · obtain ⟨g1, g2⟩ := f4 a (by omega)
        have g5 := e5 a (by omega)
        exact ⟨(g1.trans (congrFun r2 a)).trans g5.1, (g2.trans (congrFun r3 a)).trans g5.2⟩
theorem bad_none {N : Nat} {B : Nat → Nat} {d : Dev} (h : Qt N d) (k : ∀ a, a < N → HasZ d a (fun _ => B a)) : ∀ i, i ≤ N → badTo B d i = 0
  | 0, _ => rfl
  | i + 1, hi => by
    show badTo B d i + _ = 0
    rw [bad_none h k i (by omega), if_pos (show asP d (putF B i) = true from (asP_qt h (by omega) _).2 (k i (by omega)))]
#print axioms mend_fine
#print axioms bad_none
end Go.Proofs.YteleknojohnlbaaGreat
namespace Go.Proofs.YteleknojohnlbaaGreat
open Go.RowKit
set_option linter.unusedVariables false
set_option maxRecDepth 100000

theorem near_read (d : Dev) (a : Int) : Near d (readD d a) := by
  unfold readD
  split
  · exact ⟨rfl, Nat.le_refl _, Nat.le_succ _, fun a => Nat.le_add_right _ _, fun a => Nat.le_succ _⟩
  · exact Near.refl d
/-- How the tries stand: k of them are done, the device is e. -/
structure TryS (d : Dev) (P : PutP) (t k : Nat) (e : Dev) : Prop where
  E : kepE 4 d P = kepE (4 - k) e P
  D : kepD 4 d P = kepD (4 - k) e P
  lim : Lim e (t + 3 * k)
  limM : LimM e (t + 3 * k)
theorem TryS.lims {d e : Dev} {P : PutP} {t k : Nat} (h : TryS d P t k e) : (Lim (kwD e P) (t + 3 * k + 1) ∧ LimM (kwD e P) (t + 3 * k + 1)) ∧ (Lim (kfD e P) (t + 3 * k + 1 + 1) ∧ LimM (kfD e P) (t + 3 * k + 1 + 1)) ∧ (Lim (krD e P) (t + 3 * (k + 1)) ∧ LimM (krD e P) (t + 3 * (k + 1))) := by
  have h1 := (near_write e P.pl P.n P.z).lim h.lim h.limM
  have h2 := (near_flush (kwD e P)).lim h1.1 h1.2
  have h3 := (near_read (kfD e P) P.pl).lim h2.1 h2.2
  exact ⟨h1, h2, h3⟩
theorem TryS.step {d e : Dev} {P : PutP} {t k : Nat} (h : TryS d P t k e) (hk : k < 4) : kepE 4 d P = (if tryE e P = -1 then kepE (4 - (k + 1)) (tryD e P) P else tryE e P) ∧ kepD 4 d P = (if tryE e P = -1 then kepD (4 - (k + 1)) (tryD e P) P else tryD e P) := by
  rw [h.E, h.D, show 4 - k = (4 - (k + 1)) + 1 by omega]
  exact ⟨rfl, rfl⟩
theorem openE_three (d : Dev) (a : Int) : openE d a = 21 ∨ openE d a = 0 ∨ openE d a = 3 := by
  unfold openE
  split
  · exact Or.inl rfl
  · split
    · exact Or.inr (Or.inl rfl)
    · exact Or.inr (Or.inr rfl)
theorem readE_ne {d : Dev} {a : Int} : readE d a ≠ -1 := by
  unfold readE
  rcases openE_three d a with h | h | h <;> rw [h]
  · rw [if_neg (by decide)]; decide
  · rw [if_pos rfl]
    cases (lastW d.W a.toNat).isNone && d.lost a.toNat
    · rw [if_neg (by decide)]; decide
    · rw [if_pos rfl]; decide
  · rw [if_neg (by decide)]; decide
theorem writeE_ne {d : Dev} {a : Int} {n : Nat} : writeE d a n ≠ -1 := by
  unfold writeE
  rcases openE_three d a with h | h | h <;> rw [h]
  · rw [if_neg (by decide)]; decide
  · rw [if_pos rfl]
    by_cases q : n = 256
    · rw [if_pos q]
      cases diesB d
      · rw [if_neg (by decide)]; decide
      · rw [if_pos rfl]; decide
    · rw [if_neg q]; decide
  · rw [if_neg (by decide)]; decide
theorem flushE_ne {d : Dev} : flushE d ≠ -1 := by
  unfold flushE
  split <;> decide
section
variable {d e : Dev} {P : PutP} {t k : Nat}
theorem TryS.bad1 (h : TryS d P t k e) (hk : k < 4) (q : ¬ writeE e P.pl P.n = 0) : kepE 4 d P = writeE e P.pl P.n ∧ kepD 4 d P = kwD e P := by
  obtain ⟨h1, h2⟩ := h.step hk
  have e1 : tryE e P = writeE e P.pl P.n := if_neg q
  have e2 : tryD e P = kwD e P := if_neg q
  rw [h1, h2, e1, e2, if_neg writeE_ne, if_neg writeE_ne]
  exact ⟨rfl, rfl⟩
theorem TryS.bad2 (h : TryS d P t k e) (hk : k < 4) (q : writeE e P.pl P.n = 0) (q2 : ¬ flushE (kwD e P) = 0) : kepE 4 d P = flushE (kwD e P) ∧ kepD 4 d P = kfD e P := by
  obtain ⟨h1, h2⟩ := h.step hk
  have e1 : tryE e P = flushE (kwD e P) := by unfold tryE; rw [if_pos q, if_neg q2]
  have e2 : tryD e P = kfD e P := by unfold tryD; rw [if_pos q, if_neg q2]
  rw [h1, h2, e1, e2, if_neg flushE_ne, if_neg flushE_ne]
  exact ⟨rfl, rfl⟩
theorem TryS.bad3 (h : TryS d P t k e) (hk : k < 4) (q : writeE e P.pl P.n = 0) (q2 : flushE (kwD e P) = 0) (q3 : ¬ (readE (kfD e P) P.pl = 0 ∨ readE (kfD e P) P.pl = 20)) : kepE 4 d P = readE (kfD e P) P.pl ∧ kepD 4 d P = krD e P := by
  obtain ⟨h1, h2⟩ := h.step hk
  have e1 : tryE e P = readE (kfD e P) P.pl := by unfold tryE; rw [if_pos q, if_pos q2, if_neg q3]
  have e2 : tryD e P = krD e P := by unfold tryD; rw [if_pos q, if_pos q2]
  rw [h1, h2, e1, e2, if_neg readE_ne, if_neg readE_ne]
  exact ⟨rfl, rfl⟩
theorem TryS.good (h : TryS d P t k e) (hk : k < 4) (q : writeE e P.pl P.n = 0) (q2 : flushE (kwD e P) = 0) (q3 : readE (kfD e P) P.pl = 0) (q4 : eqB (readL (kfD e P) P.pl) P.n (readZ (kfD e P) P.pl) P.z = true) : kepE 4 d P = 0 ∧ kepD 4 d P = krD e P := by
  obtain ⟨h1, h2⟩ := h.step hk
  have e3 : asP (kfD e P) P = true := by unfold asP; rw [q3, q4]; rfl
  have e1 : tryE e P = 0 := by unfold tryE; rw [if_pos q, if_pos q2, if_pos (Or.inl q3), if_pos e3]
  have e2 : tryD e P = krD e P := by unfold tryD; rw [if_pos q, if_pos q2]
  rw [h1, h2, e1, e2, if_neg (by decide), if_neg (by decide)]
  exact ⟨rfl, rfl⟩
theorem TryS.on (h : TryS d P t k e) (hk : k < 4) (q : writeE e P.pl P.n = 0) (q2 : flushE (kwD e P) = 0) (q3 : readE (kfD e P) P.pl = 0 ∨ readE (kfD e P) P.pl = 20) (q4 : readE (kfD e P) P.pl = 0 → eqB (readL (kfD e P) P.pl) P.n (readZ (kfD e P) P.pl) P.z = false) : TryS d P t (k + 1) (krD e P) := by
  obtain ⟨h1, h2⟩ := h.step hk
  have e3 : asP (kfD e P) P = false := by
    unfold asP
    by_cases w : readE (kfD e P) P.pl = 0
    · rw [q4 w, Bool.and_false]
    · rw [decide_eq_false w, Bool.false_and]
  have e1 : tryE e P = -1 := by unfold tryE; rw [if_pos q, if_pos q2, if_pos q3, e3]; rfl
  have e2 : tryD e P = krD e P := by unfold tryD; rw [if_pos q, if_pos q2]
  rw [e1, e2, if_pos rfl] at h1
  rw [e1, e2, if_pos rfl] at h2
  exact ⟨h1, h2, h.lims.2.2.1, h.lims.2.2.2⟩
end
#print axioms TryS.on
/-! ### how much is done -/
theorem Lim.mono {d : Dev} {t t' : Nat} (h : Lim d t) (k : t ≤ t') : Lim d t' := ⟨Nat.le_trans h.ops k, Nat.le_trans h.W k, fun a => Nat.le_trans (h.drops a) (Nat.mul_le_mul_left _ k)⟩
theorem LimM.mono {d : Dev} {t t' : Nat} (h : LimM d t) (k : t ≤ t') : LimM d t' := fun a => Nat.le_trans (h a) k
theorem try_lim {d : Dev} {P : PutP} {t : Nat} (h : Lim d t) (hm : LimM d t) : Lim (tryD d P) (t + 3) ∧ LimM (tryD d P) (t + 3) := by
  have h1 := (near_write d P.pl P.n P.z).lim h hm
  have h2 := (near_flush (kwD d P)).lim h1.1 h1.2
  have h3 := (near_read (kfD d P) P.pl).lim h2.1 h2.2
  unfold tryD
  split
  · split
    · exact h3
    · exact ⟨h2.1.mono (by omega), h2.2.mono (by omega)⟩
  · exact ⟨h1.1.mono (by omega), h1.2.mono (by omega)⟩
theorem kep_lim {P : PutP} : ∀ (j : Nat) {d : Dev} {t : Nat}, Lim d t → LimM d t → Lim (kepD j d P) (t + 3 * j) ∧ LimM (kepD j d P) (t + 3 * j)
  | 0, _, _, h, hm => ⟨h, hm⟩
  | j + 1, d, t, h, hm => by
    have h1 := try_lim (P := P) h hm
    show Lim (if tryE d P = -1 then kepD j (tryD d P) P else tryD d P) _ ∧ LimM (if tryE d P = -1 then kepD j (tryD d P) P else tryD d P) _
    split
    · have h2 := kep_lim (P := P) j h1.1 h1.2
      exact ⟨h2.1.mono (by omega), h2.2.mono (by omega)⟩
    · exact ⟨h1.1.mono (by omega), h1.2.mono (by omega)⟩
theorem allTo_lim {f : Nat → PutP} {d : Dev} {t : Nat} (h : Lim d t) (hm : LimM d t) : ∀ k, Lim (allTo f d k).d (t + 13 * k) ∧ LimM (allTo f d k).d (t + 13 * k)
  | 0 => ⟨h, hm⟩
  | k + 1 => by
    have ih := allTo_lim (f := f) h hm k
    have h1 := kep_lim (P := f k) 4 ih.1 ih.2
    show Lim (if (allTo f d k).e = 0 then (⟨kepD 4 (allTo f d k).d (f k), kepE 4 (allTo f d k).d (f k)⟩ : AllS) else allTo f d k).d _ ∧ LimM (if (allTo f d k).e = 0 then (⟨kepD 4 (allTo f d k).d (f k), kepE 4 (allTo f d k).d (f k)⟩ : AllS) else allTo f d k).d _
    split
    · exact ⟨h1.1.mono (by omega), h1.2.mono (by omega)⟩
    · exact ⟨ih.1.mono (by omega), ih.2.mono (by omega)⟩
theorem mendTo_lim {f : Nat → PutP} {d : Dev} {t : Nat} (h : Lim d t) (hm : LimM d t) : ∀ k, Lim (mendTo f d k).d (t + 13 * k) ∧ LimM (mendTo f d k).d (t + 13 * k)
  | 0 => ⟨h, hm⟩
  | k + 1 => by
    have ih := mendTo_lim (f := f) h hm k
    have h0 := (near_read (mendTo f d k).d (f k).pl).lim ih.1 ih.2
    have h1 := kep_lim (P := f k) 4 h0.1 h0.2
    rw [mendTo_succ]
    split
    · split
      · split
        · exact ⟨h0.1.mono (by omega), h0.2.mono (by omega)⟩
        · exact ⟨h1.1.mono (by omega), h1.2.mono (by omega)⟩
      · exact ⟨h0.1.mono (by omega), h0.2.mono (by omega)⟩
    · exact ⟨ih.1.mono (by omega), ih.2.mono (by omega)⟩
theorem mendTo_c (f : Nat → PutP) (d : Dev) : ∀ k, (mendTo f d k).c ≤ k
  | 0 => Nat.le_refl _
  | k + 1 => by
    have ih := mendTo_c f d k
    rw [mendTo_succ]
    split
    · split
      · split
        · exact Nat.le_succ_of_le ih
        · show (if kepE 4 (readD (mendTo f d k).d (f k).pl) (f k) = 0 then (mendTo f d k).c + 1 else (mendTo f d k).c) ≤ k + 1
          split <;> omega
      · exact Nat.le_succ_of_le ih
    · exact Nat.le_succ_of_le ih
#print axioms mendTo_lim
end Go.Proofs.YteleknojohnlbaaGreat
